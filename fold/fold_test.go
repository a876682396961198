package fold

import (
	"math"
	"math/rand/v2"
	"slices"
	"strconv"
	"strings"
	"testing"

	"thimble/api"
	"thimble/apply"
	"thimble/audit"
	"thimble/graph"
	"thimble/op"
)

// Stamps and operations.

func at(time int64, rep int) api.Stamp {
	return api.Stamp{Time: time, Rep: rep}
}

// id is the stamp of a time, of the replica 0; of 0 it is the root's.
func id(time int) api.Stamp {
	return at(int64(time), 0)
}

// by is an operation of that stamp.
func by(s api.Stamp, o api.Op) api.Op {
	o.Stamp = s
	return o
}

// marked is an operation of that stamp that can be told from others of it by its mark, from 0 to 4095.
func marked(s api.Stamp, mark int) api.Op {
	return api.Op{Stamp: s, Kind: api.Setattr, Off: mark}
}

// markedAt are operations of times, of the replica 0; the mark of each is its place in the list.
func markedAt(times ...int) []api.Op {
	var l []api.Op
	for k, time := range times {
		l = append(l, marked(id(time), k))
	}
	return l
}

// fitted is an operation with the fields alone that its kind has.
func fitted(o api.Op) api.Op {
	f := api.Op{Stamp: o.Stamp, Kind: o.Kind}
	if o.Kind <= api.Rename {
		f.At, f.Name = o.At, o.Name
	}
	if o.Kind >= api.Link {
		f.Ino = o.Ino
	}
	if o.Kind == api.Rename {
		f.To, f.New = o.To, o.New
	}
	if o.Kind >= api.Write {
		f.Off = o.Off
	}
	if o.Kind == api.Symlink || o.Kind == api.Write {
		f.Data = o.Data
	}
	return f
}

// ofEachKind is an operation of each kind that may be, all of that stamp.
func ofEachKind(s api.Stamp) []api.Op {
	var l []api.Op
	for kind := api.Mkdir; kind <= api.Setattr; kind++ {
		l = append(l, fitted(api.Op{Stamp: s, Kind: kind, At: id(0), Ino: id(1), To: id(2), Name: "a", New: "b", Off: 3, Data: "x"}))
	}
	return l
}

// wrongOnes are operations that may not be, though that stamp may: of kinds that there aren't, with fields that their kinds haven't, with names that are none, with stamps, offsets and data that may not be.
func wrongOnes(s api.Stamp) []api.Op {
	l := []api.Op{
		{}, {Kind: -1}, {Kind: 11}, {Kind: math.MaxInt}, {Kind: math.MinInt}, {Name: "a"},
		{Kind: api.Mkdir, Name: "a", Ino: id(1)}, {Kind: api.Mkdir, Name: "a", Off: 1}, {Kind: api.Create, Name: "a", Data: "x"}, {Kind: api.Create, Name: "a", New: "b"}, {Kind: api.Link, Name: "a", Ino: id(1), To: id(1)}, {Kind: api.Setattr, At: id(1)}, {Kind: api.Trunc, Name: "a"},
		{Kind: api.Mkdir}, {Kind: api.Mkdir, Name: "."}, {Kind: api.Create, Name: ".."}, {Kind: api.Create, Name: "a/b"}, {Kind: api.Mkdir, Name: "a\x00"}, {Kind: api.Mkdir, Name: "123456789"}, {Kind: api.Rename, Name: "a"}, {Kind: api.Rename, Name: "a", New: "/"},
		{Kind: api.Mkdir, Name: "a", At: at(0, 1)}, {Kind: api.Mkdir, Name: "a", At: at(1, 8)}, {Kind: api.Unlink, Name: "a", Ino: at(-1, 0)}, {Kind: api.Rename, Name: "a", New: "b", To: at(1<<30+1, 0)},
		{Kind: api.Symlink, Name: "a"}, {Kind: api.Symlink, Name: "a", Data: strings.Repeat("x", 33)}, {Kind: api.Write}, {Kind: api.Write, Off: 64, Data: "x"}, {Kind: api.Write, Off: -1, Data: "x"}, {Kind: api.Trunc, Off: 65}, {Kind: api.Setattr, Off: 4096}, {Kind: api.Setattr, Off: -1},
	}
	for k := range l {
		l[k].Stamp = s
	}
	return l
}

// wrongStamps are stamps that no operation may have, rising.
func wrongStamps() []api.Stamp {
	return []api.Stamp{at(math.MinInt64, math.MinInt), at(math.MinInt64, 0), at(-1, 7), at(0, -1), at(0, 0), at(0, 1), at(1, -1), at(1, 8), at(5, -1), at(5, 8), at(1<<30, 8), at(1<<30+1, 0), at(1<<30+1, 7), at(math.MaxInt64, 0), at(math.MaxInt64, math.MaxInt)}
}

func TestWhatTheTestsMake(t *testing.T) {
	for _, o := range ofEachKind(at(5, 3)) {
		if !op.May(o) {
			t.Error(o)
		}
	}
	for k, o := range wrongOnes(at(5, 3)) {
		if op.May(o) {
			t.Error(k, o)
		}
	}
	for _, s := range wrongStamps() {
		for _, o := range ofEachKind(s) {
			if op.May(o) {
				t.Error(o)
			}
		}
	}
}

// The calls as the chapter's words say them: all is gone through, one by one.

func above(a, b api.Stamp) bool {
	return a.Time > b.Time || a.Time == b.Time && a.Rep > b.Rep
}

func placeOf(l []api.Op, s api.Stamp) int {
	return slices.IndexFunc(l, func(o api.Op) bool { return o.Stamp == s })
}

func plainBelow(l []api.Op, s api.Stamp) int {
	n := 0
	for n < len(l) && !above(l[n].Stamp, s) {
		n++
	}
	return n
}

func plainPut(l []api.Op, o api.Op) ([]api.Op, int, bool) {
	if !op.May(o) {
		return l, 0, false
	}
	if k := placeOf(l, o.Stamp); k >= 0 {
		return l, k, false
	}
	k := plainBelow(l, o.Stamp)
	return slices.Insert(slices.Clone(l), k, o), k, true
}

func plainSort(l []api.Op) []api.Op {
	var sorted []api.Op
	for _, o := range l {
		sorted, _, _ = plainPut(sorted, o)
	}
	return sorted
}

func plainOn(g *graph.Graph, l []api.Op) *graph.Graph {
	behind := g.Copy()
	for _, o := range plainSort(l) {
		apply.Do(behind, o)
	}
	return behind
}

func plainOf(l []api.Op) *graph.Graph {
	return plainOn(graph.New(), l)
}

// The calls, each held against all that is promised of it.

// lent is a list that has room behind its end, in which something stands; and what tells whether all that is as it was.
func lent(l []api.Op) ([]api.Op, func() bool) {
	whole := append(slices.Clone(l), ofEachKind(at(6, 6))[:4]...)
	was := slices.Clone(whole)
	return whole[:len(l)], func() bool { return slices.Equal(whole, was) }
}

// spoil turns all that a list holds, and what is behind its end.
func spoil(l []api.Op) {
	l = l[:cap(l)]
	for k := range l {
		l[k] = api.Op{Stamp: at(77, 7), Kind: 77, Name: "spoiled"}
	}
}

func wantOps(t testing.TB, what string, got, want []api.Op) {
	t.Helper()
	if !slices.Equal(got, want) {
		t.Fatalf("%s:\n%v\nwant\n%v", what, got, want)
	}
}

// listed calls what tells a list of another one, wants that answer, wants the list that it was given as it was, and that both share nothing.
func listed(t testing.TB, what string, l, want []api.Op, call func(l []api.Op) []api.Op) {
	t.Helper()
	given, kept := lent(l)
	got := call(given)
	wantOps(t, what, got, want)
	if !kept() {
		t.Fatalf("%s turned what it was given: %v", what, given)
	}
	spoil(got)
	if !kept() {
		t.Fatalf("%s shares what it was given: %v", what, given)
	}
	got = call(given)
	spoil(given)
	wantOps(t, what+", once more, what it was given spoiled", got, want)
	// A list without room behind its end.
	got = call(slices.Clip(slices.Clone(l)))
	wantOps(t, what+" of a list without room", got, want)
}

func sorted(t testing.TB, l []api.Op) []api.Op {
	t.Helper()
	want := plainSort(l)
	listed(t, "Sort", l, want, Sort)
	listed(t, "Sort of what is sorted", want, want, Sort)
	return want
}

func put(t testing.TB, l []api.Op, o api.Op) ([]api.Op, int, bool) {
	t.Helper()
	want, wantPlace, wantOk := plainPut(l, o)
	listed(t, "Put", l, want, func(l []api.Op) []api.Op {
		got, place, ok := Put(l, o)
		if place != wantPlace || ok != wantOk {
			t.Fatalf("Put of %v: %d, %t; want %d, %t; into\n%v", o, place, ok, wantPlace, wantOk, l)
		}
		return got
	})
	return want, wantPlace, wantOk
}

func wantPut(t testing.TB, l []api.Op, o api.Op, want []api.Op, wantPlace int, wantOk bool) {
	t.Helper()
	got, place, ok := put(t, l, o)
	if !slices.Equal(got, want) || place != wantPlace || ok != wantOk {
		t.Fatalf("Put of %v: %v, %d, %t; want %v, %d, %t", o, got, place, ok, want, wantPlace, wantOk)
	}
}

func wantBelow(t testing.TB, l []api.Op, s api.Stamp, want int) {
	t.Helper()
	given, kept := lent(l)
	if n := Below(given, s); n != want || n != plainBelow(l, s) || !kept() {
		t.Fatalf("Below of %v: %d; want %d; of\n%v", s, n, want, l)
	}
}

func wantGraph(t testing.TB, what string, got, want *graph.Graph) {
	t.Helper()
	if (got == nil) != (want == nil) || !slices.Equal(got.Inodes(), want.Inodes()) || !slices.Equal(got.Entries(), want.Entries()) {
		t.Fatalf("%s:\n%v\n%v\nwant\n%v\n%v", what, got.Inodes(), got.Entries(), want.Inodes(), want.Entries())
	}
}

// wantLists wants a graph of just these inodes and entries.
func wantLists(t testing.TB, what string, g *graph.Graph, n []api.Inode, e []api.Entry) {
	t.Helper()
	if !slices.Equal(g.Inodes(), n) || !slices.Equal(g.Entries(), e) {
		t.Fatalf("%s:\n%v\n%v\nwant\n%v\n%v", what, g.Inodes(), g.Entries(), n, e)
	}
}

func wantFine(t testing.TB, g *graph.Graph) {
	t.Helper()
	if !audit.Fine(g.Inodes(), g.Entries()) {
		t.Fatalf("faults %v:\n%v\n%v", audit.Check(g.Inodes(), g.Entries()), g.Inodes(), g.Entries())
	}
}

// ruin turns a graph as much as can be.
func ruin(g *graph.Graph) {
	for _, e := range g.Entries() {
		g.Untie(e.At, e.Name)
	}
	for _, i := range g.Inodes() {
		g.Drop(i.Id)
		g.Set(i.Id, 4000, "ruined")
	}
	g.Make(at(7, 7), api.File)
	g.Tie(api.Entry{Name: "ruined", Ino: at(7, 7)})
}

func on(t testing.TB, g *graph.Graph, l []api.Op) *graph.Graph {
	t.Helper()
	was, want := g.Copy(), plainOn(g, l)
	given, kept := lent(l)
	got := On(g, given)
	wantGraph(t, "On", got, want)
	wantGraph(t, "what On was given", g, was)
	if !kept() {
		t.Fatalf("On turned what it was given: %v", given)
	}
	if g == nil {
		return got
	}
	wantGraph(t, "On once more", On(g, given), want)
	// Neither turns with the other one.
	c := g.Copy()
	again := On(c, given)
	ruin(again)
	wantGraph(t, "what On was given, its answer ruined", c, was)
	again = On(c, given)
	ruin(c)
	spoil(given)
	wantGraph(t, "what On answered, what it was given ruined", again, want)
	return got
}

func of(t testing.TB, l []api.Op) *graph.Graph {
	t.Helper()
	given, kept := lent(l)
	got := Of(given)
	wantGraph(t, "Of", got, plainOf(l))
	wantGraph(t, "On the root", got, on(t, graph.New(), l))
	wantFine(t, got)
	if !kept() {
		t.Fatalf("Of turned what it was given: %v", given)
	}
	spoil(given)
	again := Of(l)
	ruin(again)
	wantGraph(t, "Of behind another one", got, Of(l))
	return got
}

// orders goes through a list in all orders.
func orders(l []api.Op, yield func(l []api.Op)) {
	var from func(k int)
	from = func(k int) {
		if k >= len(l)-1 {
			yield(slices.Clone(l))
			return
		}
		for j := k; j < len(l); j++ {
			l[k], l[j] = l[j], l[k]
			from(k + 1)
			l[k], l[j] = l[j], l[k]
		}
	}
	from(0)
}

func shuffled(r *rand.Rand, l []api.Op) []api.Op {
	l = slices.Clone(l)
	r.Shuffle(len(l), func(i, j int) { l[i], l[j] = l[j], l[i] })
	return l
}

func some[T any](r *rand.Rand, l []T) T {
	return l[r.IntN(len(l))]
}

// The example.

func TestExample(t *testing.T) {
	for _, x := range []struct{ low, high api.Stamp }{{at(3, 1), at(4, 0)}, {at(3, 1), at(3, 2)}, {at(1, 7), at(1<<30, 0)}} {
		dir, file := api.Op{Stamp: x.low, Kind: api.Mkdir, Name: "a"}, api.Op{Stamp: x.high, Kind: api.Create, Name: "a"}
		for _, l := range [][]api.Op{{dir, file}, {file, dir}, {file, dir, file, dir}} {
			wantLists(t, "the lower one", of(t, l), []api.Inode{{Kind: api.Dir}, {Id: x.low, Kind: api.Dir, Links: 1}}, []api.Entry{{Name: "a", Ino: x.low}})
		}
	}
}

// P13.1: Sort.

func TestSortOfNothing(t *testing.T) {
	for _, l := range [][]api.Op{nil, {}, make([]api.Op, 0, 9), {{}}, make([]api.Op, 50), wrongOnes(at(1, 1))} {
		if got := sorted(t, l); len(got) != 0 || len(Sort(l)) != 0 {
			t.Fatal(got)
		}
	}
}

func TestSortOfOne(t *testing.T) {
	for _, s := range []api.Stamp{at(1, 0), at(1, 7), at(5, 3), at(1<<30, 0), at(1<<30, 7)} {
		for _, o := range ofEachKind(s) {
			wantOps(t, "of one", sorted(t, []api.Op{o}), []api.Op{o})
			wantOps(t, "of one, three times", sorted(t, []api.Op{o, o, o}), []api.Op{o})
		}
	}
	for _, s := range wrongStamps() {
		for _, o := range ofEachKind(s) {
			wantOps(t, "of none", sorted(t, []api.Op{o}), nil)
		}
	}
}

// risen are operations of all kinds, rising: of times that are the same, neighbours and far off, of all replicas.
func risen() []api.Op {
	stamps := []api.Stamp{at(1, 0), at(1, 1), at(1, 7), at(2, 0), at(2, 6), at(3, 5), at(9, 7), at(10, 0), at(127, 2), at(128, 1), at(1<<20, 3), at(1<<30-1, 7), at(1<<30, 0), at(1<<30, 4), at(1<<30, 7)}
	var l []api.Op
	for k, s := range stamps {
		l = append(l, ofEachKind(s)[k%10])
	}
	return l
}

func TestSortOfAllOrders(t *testing.T) {
	all := risen()
	for n := range 7 {
		for _, l := range [][]api.Op{all[:n], all[len(all)-n:], all[5 : 5+n]} {
			orders(slices.Clone(l), func(in []api.Op) { wantOps(t, "in some order", Sort(in), l) })
		}
	}
	for n := 2; n < 5; n++ {
		orders(slices.Clone(all[:n]), func(in []api.Op) { wantOps(t, "in some order", sorted(t, in), all[:n]) })
	}
}

func TestSortOfWhatIsSorted(t *testing.T) {
	all := risen()
	for from := range all {
		for to := from; to <= len(all); to++ {
			wantOps(t, "sorted", sorted(t, all[from:to]), all[from:to])
			reversed := slices.Clone(all[from:to])
			slices.Reverse(reversed)
			wantOps(t, "reversed", sorted(t, reversed), all[from:to])
		}
	}
}

func TestSortOfAllStamps(t *testing.T) {
	// By time first: the replicas are another order, and the places in the list a third one.
	var l, want []api.Op
	for time := range 40 {
		for rep := range 8 {
			want = append(want, marked(at(int64(time+1), rep), len(want)))
		}
	}
	r := rand.New(rand.NewPCG(13, 1))
	for range 30 {
		l = shuffled(r, want)
		wantOps(t, "all stamps", sorted(t, l), want)
	}
}

func TestSortOfOneStampTheFirst(t *testing.T) {
	// Whatever the others are, and wherever they stand among others.
	same, low, high := ofEachKind(at(5, 5)), marked(at(5, 4), 1), marked(at(5, 6), 2)
	for k, first := range same {
		for j, second := range same {
			for _, l := range [][]api.Op{{first, second}, {first, second, first}, {first, first, second}, {low, first, high, second}, {high, first, second, low}, {first, low, second, high, first}, {first, high, high, low, second, low}} {
				want := []api.Op{first}
				if len(l) > 3 {
					want = []api.Op{low, first, high}
				}
				wantOps(t, strconv.Itoa(k)+" and "+strconv.Itoa(j), sorted(t, l), want)
			}
		}
	}
	// All orders of three of one stamp, with two others.
	l := []api.Op{marked(at(4, 1), 1), marked(at(4, 1), 2), marked(at(4, 1), 3), marked(at(4, 0), 4), marked(at(4, 2), 5)}
	orders(l, func(l []api.Op) {
		first := l[placeOf(l, at(4, 1))]
		wantOps(t, "the first one", sorted(t, l), []api.Op{marked(at(4, 0), 4), first, marked(at(4, 2), 5)})
	})
}

func TestSortOfManyOfFewStamps(t *testing.T) {
	// So many that what isn't sorted stably would be told.
	r := rand.New(rand.NewPCG(13, 2))
	for _, stamps := range []int{1, 2, 3, 10, 40} {
		for _, n := range []int{5, 13, 30, 100, 1000} {
			first := map[api.Stamp]api.Op{}
			var l []api.Op
			for k := range n {
				s := r.IntN(stamps)
				l = append(l, marked(at(int64(1+s/4), s%4), k))
				if _, there := first[l[k].Stamp]; !there {
					first[l[k].Stamp] = l[k]
				}
			}
			got := sorted(t, l)
			if len(got) != len(first) {
				t.Fatal(len(got), len(first))
			}
			for k, o := range got {
				if o != first[o.Stamp] || k > 0 && !above(o.Stamp, got[k-1].Stamp) {
					t.Fatal(k, o)
				}
			}
		}
	}
}

func TestSortOfWhatMayNotBe(t *testing.T) {
	low, mid, high := marked(at(5, 4), 1), marked(at(5, 5), 2), marked(at(5, 6), 3)
	want := []api.Op{low, mid, high}
	wrong := append(wrongOnes(at(5, 1)), wrongOnes(at(9, 0))...)
	for _, s := range wrongStamps() {
		wrong = append(wrong, ofEachKind(s)...)
	}
	for _, o := range wrong {
		for _, l := range [][]api.Op{{o, low, mid, high}, {low, o, mid, high}, {low, mid, o, high}, {low, mid, high, o}, {o, high, o, mid, o, low, o}} {
			wantOps(t, "among others", sorted(t, l), want)
		}
	}
	// Of a stamp that others have: those that may be are all that counts.
	for _, o := range wrongOnes(at(5, 5)) {
		for _, l := range [][]api.Op{{o, low, mid, high}, {high, mid, o, low}, {o, o, mid, high, low, marked(at(5, 5), 9)}} {
			wantOps(t, "of a stamp that is there", sorted(t, l), want)
		}
		wantOps(t, "without the other one", sorted(t, []api.Op{high, o, low}), []api.Op{low, high})
	}
	wantOps(t, "all of them", sorted(t, slices.Concat(wrong, []api.Op{high}, wrong, []api.Op{low, mid}, wrong)), want)
}

func TestSortOfALongList(t *testing.T) {
	const many = 50000
	var want []api.Op
	for k := range many {
		want = append(want, marked(at(int64(1+k/8), k%8), k%4096))
	}
	reversed := slices.Clone(want)
	slices.Reverse(reversed)
	wantOps(t, "a long list, reversed", Sort(reversed), want)
	wantOps(t, "a long list, shuffled", Sort(shuffled(rand.New(rand.NewPCG(13, 3)), want)), want)
	wantOps(t, "a long list, twice", Sort(slices.Concat(reversed, want)), want)
}

// P13.1: Put.

func TestPutIntoNothing(t *testing.T) {
	for _, l := range [][]api.Op{nil, {}, make([]api.Op, 0, 9)} {
		for _, s := range []api.Stamp{at(1, 0), at(1, 7), at(5, 3), at(1<<30, 7)} {
			for _, o := range ofEachKind(s) {
				wantPut(t, l, o, []api.Op{o}, 0, true)
			}
			for _, o := range wrongOnes(s) {
				wantPut(t, l, o, nil, 0, false)
			}
		}
		for _, s := range wrongStamps() {
			wantPut(t, l, marked(s, 1), nil, 0, false)
		}
	}
}

func TestPutAtEachPlace(t *testing.T) {
	l := markedAt(10, 20, 30)
	for _, x := range []struct {
		s     api.Stamp
		place int
	}{
		{at(1, 0), 0}, {at(9, 7), 0}, {at(10, 1), 1}, {at(10, 7), 1}, {at(11, 0), 1}, {at(19, 7), 1}, {at(20, 1), 2}, {at(29, 7), 2}, {at(30, 1), 3}, {at(31, 0), 3}, {at(1<<30, 7), 3},
	} {
		for _, o := range ofEachKind(x.s) {
			wantPut(t, l, o, slices.Insert(slices.Clone(l), x.place, o), x.place, true)
		}
	}
	// Below one of the same time, by replica.
	l = []api.Op{marked(at(10, 3), 1), marked(at(10, 5), 2)}
	for rep, place := range []int{0, 0, 0, -1, 1, -1, 2, 2} {
		if place >= 0 {
			o := marked(at(10, rep), 9)
			wantPut(t, l, o, slices.Insert(slices.Clone(l), place, o), place, true)
		}
	}
	// Each one into all the others, and into those below it and above it alone.
	all := risen()
	for k, o := range all {
		wantPut(t, slices.Delete(slices.Clone(all), k, k+1), o, all, k, true)
		wantPut(t, all[:k], o, all[:k+1], k, true)
		wantPut(t, all[k+1:], o, all[k:], 0, true)
	}
}

func TestPutOfAStampThatIsThere(t *testing.T) {
	all := risen()
	for n := range len(all) + 1 {
		for k := range n {
			for _, o := range ofEachKind(all[k].Stamp) {
				wantPut(t, all[:n], o, all[:n], k, false)
				wantPut(t, all[k:n], o, all[k:n], 0, false)
			}
			wantPut(t, all[:n], all[k], all[:n], k, false)
		}
	}
}

func TestPutOfWhatMayNotBe(t *testing.T) {
	all := risen()
	for _, s := range []api.Stamp{at(1, 2), at(2, 1), at(64, 4), at(1<<30, 6)} {
		for _, o := range wrongOnes(s) {
			wantPut(t, all, o, all, 0, false)
			wantPut(t, all[:5], o, all[:5], 0, false)
		}
	}
	for _, s := range wrongStamps() {
		for _, o := range ofEachKind(s) {
			wantPut(t, all, o, all, 0, false)
		}
	}
	// Of a stamp that is there: nothing is looked for.
	for _, there := range all {
		for _, o := range wrongOnes(there.Stamp) {
			wantPut(t, all, o, all, 0, false)
		}
	}
}

func TestPutIntoWhatMayNotBe(t *testing.T) {
	// The stamps of the list alone tell the place; what rises may be anything.
	var l []api.Op
	for k, s := range wrongStamps() {
		l = append(l, by(s, wrongOnes(s)[k]))
	}
	for _, x := range []struct {
		s     api.Stamp
		place int
	}{{at(1, 0), 7}, {at(1, 7), 7}, {at(2, 0), 8}, {at(5, 0), 9}, {at(5, 7), 9}, {at(6, 0), 10}, {at(1<<30, 0), 10}, {at(1<<30, 7), 10}} {
		o := marked(x.s, 5)
		wantPut(t, l, o, slices.Insert(slices.Clone(l), x.place, o), x.place, true)
	}
	l = []api.Op{by(at(3, 0), api.Op{}), by(at(4, 0), api.Op{Kind: 99})}
	wantPut(t, l, marked(at(4, 0), 1), l, 1, false)
	wantPut(t, l, marked(at(3, 0), 1), l, 0, false)
}

func TestPutChangesNothing(t *testing.T) {
	// What is behind a list's end may be the rest of a longer one.
	all := risen()
	was := slices.Clone(all)
	for n := range len(all) {
		for k := range n + 1 {
			s := at(all[k].Stamp.Time, all[k].Stamp.Rep)
			o := marked(s, 7)
			got, _, _ := Put(all[:n], o)
			wantOps(t, "the longer list", all, was)
			got = append(got, o)
			spoil(got)
			wantOps(t, "the longer list behind what was spoiled", all, was)
		}
	}
	// Two that are put into one list, each behind its end.
	l := make([]api.Op, 0, 10)
	l = append(l, markedAt(1, 2, 3)...)
	one, _, _ := Put(l, marked(id(4), 40))
	two, _, _ := Put(l, marked(id(5), 50))
	same, _, _ := Put(l, marked(id(2), 60))
	none, _, _ := Put(l, api.Op{})
	spoil(l)
	spoil(same)
	wantOps(t, "one", one, append(markedAt(1, 2, 3), marked(id(4), 40)))
	wantOps(t, "two", two, append(markedAt(1, 2, 3), marked(id(5), 50)))
	wantOps(t, "none", none, markedAt(1, 2, 3))
}

func TestPutOfAllOrders(t *testing.T) {
	all := risen()[:6]
	orders(slices.Clone(all), func(in []api.Op) {
		var l []api.Op
		for k, o := range in {
			var ok bool
			if l, _, ok = Put(l, o); !ok || len(l) != k+1 {
				t.Fatal(k, l)
			}
		}
		wantOps(t, "put in some order", l, all)
	})
}

func TestPutIsSort(t *testing.T) {
	r := rand.New(rand.NewPCG(13, 4))
	for range 20 {
		var l []api.Op
		var in []api.Op
		for range 60 {
			o := marked(at(int64(r.IntN(12)), r.IntN(9)), r.IntN(4200))
			in = append(in, o)
			l, _, _ = put(t, l, o)
			wantOps(t, "of as many", l, sorted(t, in))
		}
	}
}

func TestPutIntoALongList(t *testing.T) {
	// Lists of each length up to 70, and one that is longer, with each place in them.
	var times []int
	for n := range 71 {
		l := markedAt(times...)
		for k := range n + 1 {
			o := marked(id(2*k+1), 9)
			wantPut(t, l, o, slices.Insert(slices.Clone(l), k, o), k, true)
			if k < n {
				wantPut(t, l, marked(id(2*k+2), 9), l, k, false)
			}
		}
		times = append(times, 2*n+2)
	}
	times = nil
	for k := range 3000 {
		times = append(times, 2*k+2)
	}
	var l []api.Op
	for k, time := range times {
		l = append(l, marked(id(time), k))
	}
	for k := 0; k <= len(l); k += 13 {
		got, place, ok := Put(l, marked(id(2*k+1), 9))
		if !ok || place != k || len(got) != len(l)+1 || got[k].Off != 9 {
			t.Fatal(k, place, ok)
		}
	}
}

// P13.1: Below.

func TestBelow(t *testing.T) {
	for _, l := range [][]api.Op{nil, {}} {
		for _, s := range append(wrongStamps(), at(1, 0), at(5, 5), at(1<<30, 7)) {
			wantBelow(t, l, s, 0)
		}
	}
	l := []api.Op{marked(at(3, 2), 0), marked(at(3, 5), 1), marked(at(8, 0), 2), marked(at(9, 7), 3)}
	for _, x := range []struct {
		s    api.Stamp
		want int
	}{
		{at(0, 0), 0}, {at(1, 7), 0}, {at(2, 7), 0}, {at(3, 0), 0}, {at(3, 1), 0}, {at(3, 2), 1}, {at(3, 3), 1}, {at(3, 4), 1}, {at(3, 5), 2}, {at(3, 6), 2}, {at(4, 0), 2}, {at(7, 7), 2}, {at(8, 0), 3}, {at(8, 7), 3}, {at(9, 0), 3}, {at(9, 6), 3}, {at(9, 7), 4}, {at(10, 0), 4}, {at(1<<30, 7), 4},
		// Stamps that may not be are in the same order.
		{at(math.MinInt64, math.MaxInt), 0}, {at(-1, 7), 0}, {at(0, 9), 0}, {at(3, -1), 0}, {at(3, math.MinInt), 0}, {at(3, 8), 2}, {at(8, -1), 2}, {at(9, math.MaxInt), 4}, {at(math.MaxInt64, math.MinInt), 4},
	} {
		wantBelow(t, l, x.s, x.want)
	}
}

func TestBelowOfEachLength(t *testing.T) {
	var l []api.Op
	for n := range 41 {
		wantBelow(t, l, id(0), 0)
		for k := range n {
			wantBelow(t, l, id(2*k+1), k)
			wantBelow(t, l, id(2*k+2), k+1)
			wantBelow(t, l, at(int64(2*k+2), -1), k)
			wantBelow(t, l, at(int64(2*k+2), 1), k+1)
		}
		wantBelow(t, l, id(2*n+1), n)
		wantBelow(t, l, at(math.MaxInt64, 0), n)
		l = append(l, marked(id(2*n+2), n))
	}
	all := risen()
	for from := range all {
		for k, o := range all {
			wantBelow(t, all[from:], o.Stamp, max(0, k+1-from))
			wantBelow(t, all[:from], o.Stamp, min(from, k+1))
		}
	}
}

func TestBelowOfWhatMayNotBe(t *testing.T) {
	// The stamps alone are asked.
	stamps := wrongStamps()
	var l []api.Op
	for k, s := range stamps {
		l = append(l, by(s, wrongOnes(s)[k]))
	}
	for k, s := range stamps {
		wantBelow(t, l, s, k+1)
	}
	for _, x := range []struct {
		s    api.Stamp
		want int
	}{{at(0, 0), 5}, {at(1, 0), 7}, {at(1, 7), 7}, {at(2, 0), 8}, {at(1<<30, 7), 10}} {
		wantBelow(t, l, x.s, x.want)
	}
}

// TestListsThatDoNotRise: of these nothing is promised but that each call ends, and doesn't panic.
func TestListsThatDoNotRise(t *testing.T) {
	r := rand.New(rand.NewPCG(13, 5))
	for range 300 {
		var l []api.Op
		for range r.IntN(20) {
			l = append(l, marked(at(int64(r.IntN(5)), r.IntN(3)), r.IntN(9)))
		}
		s := at(int64(r.IntN(6)), r.IntN(3))
		if n := Below(l, s); n < 0 || n > len(l) {
			t.Fatal(n)
		}
		given, kept := lent(l)
		got, place, ok := Put(given, marked(s, 9))
		if !kept() || place < 0 || place > len(l) || ok && (len(got) != len(l)+1 || got[place].Stamp != s) || !ok && !slices.Equal(got, l) {
			t.Fatal(l, got, place, ok)
		}
	}
}

// P13.2: Of.

func root() []api.Inode {
	return []api.Inode{{Kind: api.Dir}}
}

func TestOfNothing(t *testing.T) {
	for _, l := range [][]api.Op{nil, {}, {{}}, wrongOnes(at(3, 3)), {marked(at(0, 0), 5), marked(at(1, 8), 5)}} {
		wantLists(t, "of nothing", of(t, l), root(), nil)
	}
}

func TestOfOne(t *testing.T) {
	s := at(4, 2)
	in := []api.Entry{{Name: "a", Ino: s}}
	for _, x := range []struct {
		o api.Op
		n []api.Inode
		e []api.Entry
	}{
		{api.Op{Kind: api.Mkdir, Name: "a"}, append(root(), api.Inode{Id: s, Kind: api.Dir, Links: 1}), in},
		{api.Op{Kind: api.Create, Name: "a"}, append(root(), api.Inode{Id: s, Kind: api.File, Links: 1}), in},
		{api.Op{Kind: api.Symlink, Name: "a", Data: "/b"}, append(root(), api.Inode{Id: s, Kind: api.Sym, Links: 1, Data: "/b"}), in},
		{api.Op{Kind: api.Setattr, Off: 493}, []api.Inode{{Kind: api.Dir, Mode: 493}}, nil},
		// What can't be done leaves the root alone.
		{api.Op{Kind: api.Mkdir, At: id(1), Name: "a"}, root(), nil},
		{api.Op{Kind: api.Link, Ino: id(1), Name: "a"}, root(), nil},
		{api.Op{Kind: api.Link, Name: "a"}, root(), nil},
		{api.Op{Kind: api.Unlink, Ino: id(1), Name: "a"}, root(), nil},
		{api.Op{Kind: api.Rmdir, Name: "a"}, root(), nil},
		{api.Op{Kind: api.Rename, Ino: id(1), Name: "a", New: "b"}, root(), nil},
		{api.Op{Kind: api.Write, Data: "x"}, root(), nil},
		{api.Op{Kind: api.Trunc, Ino: id(1)}, root(), nil},
		{api.Op{Kind: api.Setattr, Ino: id(1), Off: 1}, root(), nil},
		// What may not be, too.
		{api.Op{Kind: api.Mkdir, Name: "a/"}, root(), nil},
		{api.Op{Kind: api.Setattr, Off: 4096}, root(), nil},
	} {
		o := by(s, x.o)
		wantLists(t, "of one", of(t, []api.Op{o}), x.n, x.e)
		wantLists(t, "of one, three times", of(t, []api.Op{o, o, o}), x.n, x.e)
	}
}

// row is operations that rise, of which some can't be done, and some that may not be; and the graph that they make.
func row() (l []api.Op, n []api.Inode, e []api.Entry) {
	l = []api.Op{
		by(id(1), api.Op{Kind: api.Mkdir, Name: "d"}),
		by(id(2), api.Op{Kind: api.Create, At: id(1), Name: "f"}),
		by(id(3), api.Op{Kind: api.Create, At: id(9), Name: "x"}), // nine isn't there yet
		by(id(4), api.Op{Kind: api.Write, Ino: id(2), Off: 1, Data: "abc"}),
		by(id(5), api.Op{Kind: api.Mkdir, Name: "d"}), // d is there
		by(id(6), api.Op{Kind: api.Link, Ino: id(2), Name: "g"}),
		by(id(7), api.Op{Kind: api.Unlink, At: id(1), Ino: id(2), Name: "f"}),
		by(id(8), api.Op{Kind: api.Rmdir, Ino: id(1), Name: "d"}),
		by(id(9), api.Op{Kind: api.Mkdir, Name: "d"}),
		by(at(9, 1), api.Op{Kind: api.Symlink, At: id(9), Name: "s", Data: "../g"}),
		by(at(9, 2), api.Op{Kind: api.Create, At: id(1), Name: "y"}), // one is gone
		by(at(9, 3), api.Op{Kind: api.Mkdir, At: id(9), Name: "a/b"}),
		by(id(10), api.Op{Kind: api.Rename, Ino: id(2), Name: "g", To: id(9), New: "g"}),
		by(id(11), api.Op{Kind: api.Trunc, Ino: id(2), Off: 3}),
		by(id(12), api.Op{Kind: api.Setattr, Ino: id(2), Off: 420}),
		by(id(13), api.Op{Kind: api.Rmdir, Ino: id(9), Name: "d"}), // it has entries
	}
	n = append(root(), api.Inode{Id: id(2), Kind: api.File, Links: 1, Mode: 420, Data: "\x00ab"}, api.Inode{Id: id(9), Kind: api.Dir, Links: 1}, api.Inode{Id: at(9, 1), Kind: api.Sym, Links: 1, Data: "../g"})
	e = []api.Entry{{Name: "d", Ino: id(9)}, {At: id(9), Name: "g", Ino: id(2)}, {At: id(9), Name: "s", Ino: at(9, 1)}}
	return l, n, e
}

func TestOfARow(t *testing.T) {
	l, n, e := row()
	wantLists(t, "rising", of(t, l), n, e)
	reversed := slices.Clone(l)
	slices.Reverse(reversed)
	wantLists(t, "falling", of(t, reversed), n, e)
	wantLists(t, "twice", of(t, slices.Concat(l, l)), n, e)
	wantLists(t, "twice, the second time falling", of(t, slices.Concat(l, reversed)), n, e)
	r := rand.New(rand.NewPCG(13, 6))
	for range 100 {
		in := append(shuffled(r, l), shuffled(r, l)[:r.IntN(len(l))]...)
		for range 5 {
			in = slices.Insert(in, r.IntN(len(in)+1), some(r, wrongOnes(at(int64(1+r.IntN(14)), 0))))
		}
		wantLists(t, "in some order", of(t, in), n, e)
	}
}

func TestOfOneStampTheFirst(t *testing.T) {
	for _, x := range []struct{ first, second string }{{"a", "b"}, {"b", "a"}} {
		first, second := by(at(3, 3), api.Op{Kind: api.Mkdir, Name: x.first}), by(at(3, 3), api.Op{Kind: api.Create, Name: x.second})
		wantLists(t, "the first one", of(t, []api.Op{first, second, first}), append(root(), api.Inode{Id: at(3, 3), Kind: api.Dir, Links: 1}), []api.Entry{{Name: x.first, Ino: at(3, 3)}})
	}
}

func TestOfWhatIsInEachOthersWay(t *testing.T) {
	dirs := []api.Op{by(id(1), api.Op{Kind: api.Mkdir, Name: "a"}), by(id(2), api.Op{Kind: api.Mkdir, Name: "b"})}
	n := append(root(), api.Inode{Id: id(1), Kind: api.Dir, Links: 1}, api.Inode{Id: id(2), Kind: api.Dir, Links: 1})
	intoB, intoA := api.Op{Kind: api.Rename, Ino: id(1), Name: "a", To: id(2), New: "a"}, api.Op{Kind: api.Rename, Ino: id(2), Name: "b", To: id(1), New: "b"}
	underB, underA := []api.Entry{{Name: "b", Ino: id(2)}, {At: id(2), Name: "a", Ino: id(1)}}, []api.Entry{{Name: "a", Ino: id(1)}, {At: id(1), Name: "b", Ino: id(2)}}
	for _, x := range []struct {
		one, two api.Op
		e        []api.Entry
	}{
		// Two directories, each moved into the other one: the lower stamp tells which.
		{by(at(3, 0), intoB), by(at(3, 1), intoA), underB},
		{by(at(3, 1), intoB), by(at(3, 0), intoA), underA},
		{by(at(4, 0), intoB), by(at(3, 7), intoA), underA},
		// A directory that goes, and one that is moved into it.
		{by(at(3, 0), intoB), by(at(4, 0), api.Op{Kind: api.Rmdir, Ino: id(2), Name: "b"}), underB},
	} {
		orders(append(slices.Clone(dirs), x.one, x.two), func(l []api.Op) { wantLists(t, "in some order", of(t, l), n, x.e) })
	}
	// The other way round: it is gone, and nothing can be moved into it.
	gone := []api.Op{by(at(4, 0), intoB), by(at(3, 0), api.Op{Kind: api.Rmdir, Ino: id(2), Name: "b"})}
	orders(append(slices.Clone(dirs), gone...), func(l []api.Op) {
		wantLists(t, "it is gone", of(t, l), n[:2], []api.Entry{{Name: "a", Ino: id(1)}})
	})
	// What is below a directory that is made above isn't.
	early := []api.Op{by(at(3, 0), api.Op{Kind: api.Create, At: id(5), Name: "x"}), by(id(5), api.Op{Kind: api.Mkdir, Name: "c"}), by(id(6), api.Op{Kind: api.Create, At: id(5), Name: "y"})}
	orders(early, func(l []api.Op) {
		wantLists(t, "too early", of(t, l), append(root(), api.Inode{Id: id(5), Kind: api.Dir, Links: 1}, api.Inode{Id: id(6), Kind: api.File, Links: 1}), []api.Entry{{Name: "c", Ino: id(5)}, {At: id(5), Name: "y", Ino: id(6)}})
	})
}

func TestOfMoreThanThereIsRoomFor(t *testing.T) {
	// 39 inodes beside the root, those with the lowest stamps; one goes, and the next one comes.
	var l []api.Op
	for k := range 60 {
		l = append(l, by(at(int64(1+k/4), k%4*2), api.Op{Kind: api.Create, Name: strconv.Itoa(k)}))
	}
	r := rand.New(rand.NewPCG(13, 7))
	for range 10 {
		g := of(t, shuffled(r, l))
		if n := g.Inodes(); len(n) != 40 || n[39].Id != l[38].Stamp {
			t.Fatal(n)
		}
	}
	gone := by(at(10, 7), api.Op{Kind: api.Unlink, Ino: l[3].Stamp, Name: "3"})
	for range 10 {
		g := of(t, shuffled(r, append(l, gone)))
		if n := g.Inodes(); len(n) != 40 || n[38].Id != l[38].Stamp || n[39].Id != l[40].Stamp || !above(l[40].Stamp, gone.Stamp) || !above(gone.Stamp, l[39].Stamp) {
			t.Fatal(n)
		}
	}
	// Six links of a file, those with the lowest stamps.
	l = []api.Op{by(id(1), api.Op{Kind: api.Create, Name: "0"})}
	for k := 1; k < 10; k++ {
		l = append(l, by(id(1+k), api.Op{Kind: api.Link, Ino: id(1), Name: strconv.Itoa(k)}))
	}
	for range 10 {
		g := of(t, shuffled(r, l))
		if e := g.Entries(); len(e) != 6 || e[5].Name != "5" {
			t.Fatal(e)
		}
	}
}

// P13.2: On.

func TestOnNil(t *testing.T) {
	l, _, _ := row()
	for _, l := range [][]api.Op{nil, {}, {{}}, l, risen(), wrongOnes(at(1, 1))} {
		if g := on(t, nil, l); g != nil {
			t.Fatal(g)
		}
	}
}

func TestOnOfNothing(t *testing.T) {
	l, n, e := row()
	for _, nothing := range [][]api.Op{nil, {}, {{}}, wrongOnes(at(30, 1))} {
		g := Of(l)
		c := on(t, g, nothing)
		if c == g {
			t.Fatal("no copy")
		}
		wantLists(t, "a copy", c, n, e)
		ruin(c)
		wantLists(t, "what was copied", g, n, e)
		wantLists(t, "the root", on(t, graph.New(), nothing), root(), nil)
	}
}

func TestOnBehindOthers(t *testing.T) {
	l, n, e := row()
	for k := range len(l) + 1 {
		wantLists(t, "behind "+strconv.Itoa(k), on(t, of(t, l[:k]), l[k:]), n, e)
	}
	// Of a graph that something else made, operations are done in their own order, whatever stamps it has.
	g := graph.New()
	g.Make(at(50, 0), api.Dir)
	g.Tie(api.Entry{Name: "d", Ino: at(50, 0)})
	g.Set(id(0), 7, "")
	got := on(t, g, []api.Op{by(id(2), api.Op{Kind: api.Create, At: at(50, 0), Name: "f"}), by(id(1), api.Op{Kind: api.Rename, Ino: at(50, 0), Name: "d", New: "e"}), by(id(3), api.Op{Kind: api.Mkdir, Name: "e"})})
	wantLists(t, "lower stamps", got, []api.Inode{{Kind: api.Dir, Mode: 7}, {Id: id(2), Kind: api.File, Links: 1}, {Id: at(50, 0), Kind: api.Dir, Links: 1}}, []api.Entry{{Name: "e", Ino: at(50, 0)}, {At: at(50, 0), Name: "f", Ino: id(2)}})
	wantLists(t, "what it was done to", g, []api.Inode{{Kind: api.Dir, Mode: 7}, {Id: at(50, 0), Kind: api.Dir, Links: 1}}, []api.Entry{{Name: "d", Ino: at(50, 0)}})
	// What was done may be done again: it tells errors then, or does the same.
	wantLists(t, "all of them again", on(t, of(t, l[:7]), l[:7]), of(t, l[:7]).Inodes(), of(t, l[:7]).Entries())
}

func TestOnSharesNothing(t *testing.T) {
	l, n, e := row()
	g := Of(l)
	one, two := On(g, []api.Op{marked(id(20), 1)}), On(g, []api.Op{marked(id(20), 2)})
	apply.Do(one, by(id(30), api.Op{Kind: api.Unlink, At: id(9), Ino: id(2), Name: "g"}))
	apply.Do(g, by(id(31), api.Op{Kind: api.Write, Ino: id(2), Data: "zzz"}))
	moded := func(mode int) []api.Inode {
		c := slices.Clone(n)
		c[0].Mode = mode
		return c
	}
	wantLists(t, "one", one, slices.Delete(moded(1), 1, 2), slices.Delete(slices.Clone(e), 1, 2))
	wantLists(t, "two", two, moded(2), e)
	written := moded(0)
	written[1].Data = "zzz"
	wantLists(t, "what they were made of", g, written, e)
}

// TestOnWhatIsNotFine: of graphs that aren't fine nothing is promised but that it ends, and doesn't panic.
func TestOnWhatIsNotFine(t *testing.T) {
	loose := graph.New()
	for k := range 5 {
		loose.Make(id(k+1), 1+k%3)
		loose.Set(id(k+1), -5, strings.Repeat("x", 40*k))
	}
	loose.Tie(api.Entry{At: id(1), Name: "a", Ino: id(4)})
	l, _, _ := row()
	for _, g := range []*graph.Graph{{}, loose} {
		for _, l := range [][]api.Op{nil, l, risen(), ofEachKind(at(3, 0)), ofEachKind(at(9, 0))} {
			on(t, g, l)
			if g.Copy() == nil {
				t.Fatal("nil")
			}
		}
	}
}

// P13.3: the theorem.

// drawn is an operation of things that a graph has.
func drawn(r *rand.Rand, g *graph.Graph, s api.Stamp, names []string) api.Op {
	inodes, entries := g.Inodes(), g.Entries()
	dirs := slices.DeleteFunc(g.Inodes(), func(i api.Inode) bool { return i.Kind != api.Dir })
	if r.IntN(10) == 0 {
		dirs = inodes
	}
	o := api.Op{Stamp: s, Kind: 1 + r.IntN(10), At: some(r, dirs).Id, Ino: some(r, inodes).Id, To: some(r, dirs).Id, Name: some(r, names), New: some(r, names), Off: r.IntN(40), Data: strings.Repeat("x", 1+r.IntN(24))}
	if len(entries) > 0 && api.Unlink <= o.Kind && o.Kind <= api.Rename && r.IntN(8) > 0 {
		e := some(r, entries)
		o.At, o.Name, o.Ino = e.At, e.Name, e.Ino
	}
	return fitted(o)
}

// history is what some replicas issue that tell each other only now and then what they know: in each one's graph all of it could be, in the others' maybe not.
func history(r *rand.Rand, reps, steps int, names []string) []api.Op {
	known := make([][]api.Op, reps)
	var all []api.Op
	for range steps {
		rep := r.IntN(reps)
		if r.IntN(6) == 0 {
			known[rep] = plainSort(append(known[rep], known[r.IntN(reps)]...))
		}
		time := int64(0)
		for _, o := range known[rep] {
			time = max(time, o.Stamp.Time)
		}
		o := drawn(r, plainOf(known[rep]), at(time+1, rep), names)
		known[rep] = append(known[rep], o)
		all = append(all, o)
	}
	return all
}

// tally counts of each kind what could be done, and what couldn't.
func tally(l []api.Op, done, undone map[int]int) {
	g := graph.New()
	for _, o := range plainSort(l) {
		if apply.Do(g, o) == api.OK {
			done[o.Kind]++
		} else {
			undone[o.Kind]++
		}
	}
}

// histories are some of them, long and short, of one replica and of several.
func histories(t testing.TB, seed uint64) [][]api.Op {
	t.Helper()
	r := rand.New(rand.NewPCG(13, seed))
	done, undone := map[int]int{}, map[int]int{}
	var all [][]api.Op
	for k := range 24 {
		l := history(r, 1+k%5, 20+10*(k%8), []string{"a", "b", "c", "d", "e"}[:2+k%4])
		tally(l, done, undone)
		all = append(all, l)
	}
	for kind := api.Mkdir; kind <= api.Setattr; kind++ {
		if done[kind] < 5 || undone[kind] < 5 {
			t.Fatal(kind, done, undone)
		}
	}
	return all
}

func TestTheOrderIsNothing(t *testing.T) {
	r := rand.New(rand.NewPCG(13, 8))
	for _, l := range histories(t, 20) {
		want := of(t, l)
		for range 6 {
			// Each at least once, some more often, some that may not be between.
			in := slices.Concat(shuffled(r, l), shuffled(r, l)[:r.IntN(len(l))], wrongOnes(some(r, l).Stamp))
			got := of(t, shuffled(r, in))
			wantGraph(t, "in another order", got, want)
			wantFine(t, got)
		}
	}
}

func TestAllOrders(t *testing.T) {
	r := rand.New(rand.NewPCG(13, 9))
	for range 12 {
		l := history(r, 3, 6, []string{"a", "b"})
		want := of(t, l)
		orders(slices.Clone(l), func(in []api.Op) { wantGraph(t, "in some order", Of(in), want) })
	}
}

// TestAllRows: all rows of three operations out of a few that are in each other's way, with what some stand behind.
func TestAllRows(t *testing.T) {
	begin := []api.Op{by(id(1), api.Op{Kind: api.Mkdir, Name: "a"}), by(id(2), api.Op{Kind: api.Mkdir, At: id(1), Name: "b"}), by(id(3), api.Op{Kind: api.Create, Name: "f"})}
	kinds := []api.Op{
		{Kind: api.Mkdir, Name: "f"}, {Kind: api.Create, At: id(2), Name: "b"}, {Kind: api.Symlink, Name: "b", Data: "a"}, {Kind: api.Link, At: id(2), Ino: id(3), Name: "f"}, {Kind: api.Unlink, Ino: id(3), Name: "f"}, {Kind: api.Rmdir, At: id(1), Ino: id(2), Name: "b"},
		{Kind: api.Rename, Ino: id(1), Name: "a", To: id(2), New: "a"}, {Kind: api.Rename, At: id(1), Ino: id(2), Name: "b", New: "b"}, {Kind: api.Rename, Ino: id(3), Name: "f", To: id(1), New: "b"}, {Kind: api.Write, Ino: id(3), Off: 1, Data: "x"}, {Kind: api.Trunc, Ino: id(3), Off: 1}, {Kind: api.Setattr, Ino: id(3), Off: 7},
	}
	base := Of(begin)
	for _, x := range kinds {
		for _, y := range kinds {
			for _, z := range kinds {
				rising := []api.Op{by(at(5, 1), x), by(at(5, 2), y), by(at(6, 0), z)}
				want := base.Copy()
				for _, o := range rising {
					apply.Do(want, o)
				}
				falling := []api.Op{rising[2], rising[1], rising[0]}
				wantGraph(t, "on the others", On(base, falling), want)
				wantGraph(t, "with the others", Of(append(falling, begin...)), want)
				wantFine(t, want)
			}
		}
	}
	wantGraph(t, "what all were done to", base, plainOf(begin))
}

func TestSplitAtAnyStamp(t *testing.T) {
	r := rand.New(rand.NewPCG(13, 10))
	for _, l := range histories(t, 21) {
		want, rising := of(t, l), Sort(l)
		// At the stamp of each, and next to it.
		var stamps []api.Stamp
		for _, o := range l {
			stamps = append(stamps, o.Stamp, at(o.Stamp.Time, o.Stamp.Rep-1), at(o.Stamp.Time, 7))
		}
		for _, s := range append(stamps, wrongStamps()...) {
			n := Below(rising, s)
			wantGraph(t, "split", On(Of(rising[:n]), rising[n:]), want)
			// Of what is in no order.
			var low, high []api.Op
			for _, o := range shuffled(r, append(l, l...)) {
				if above(o.Stamp, s) {
					high = append(high, o)
				} else {
					low = append(low, o)
				}
			}
			wantGraph(t, "split, in no order", On(Of(low), high), want)
		}
		// In as many parts as there are operations, and in three.
		g := graph.New()
		for _, o := range rising {
			g = On(g, []api.Op{o})
			wantFine(t, g)
		}
		wantGraph(t, "one by one", g, want)
		for range 10 {
			i, j := r.IntN(len(l)+1), r.IntN(len(l)+1)
			i, j = min(i, j), max(i, j)
			wantGraph(t, "in three", on(t, on(t, of(t, rising[:i]), rising[i:j]), shuffled(r, rising[j:])), want)
		}
	}
}

func TestOneAboveAllOthers(t *testing.T) {
	r := rand.New(rand.NewPCG(13, 11))
	for _, l := range histories(t, 22) {
		g := of(t, l)
		top := Sort(l)[len(l)-1].Stamp
		for _, s := range []api.Stamp{at(top.Time+1, 0), at(top.Time+1, 7), at(1<<30, 7)} {
			o := drawn(r, g, s, []string{"a", "b", "z"})
			want := g.Copy()
			apply.Do(want, o)
			for range 3 {
				in := slices.Insert(shuffled(r, l), r.IntN(len(l)+1), o)
				wantGraph(t, "done last", of(t, in), want)
			}
			wantGraph(t, "on the others", on(t, g, []api.Op{o}), want)
			put, place, ok := Put(Sort(l), o)
			if !ok || place != len(l) || Below(put, top) != len(l) {
				t.Fatal(place, ok)
			}
			wantGraph(t, "put", of(t, put), want)
		}
	}
}

func TestWhoeverHasTheSame(t *testing.T) {
	// Replicas that hear of all, each in an order of its own, each some of it twice, and put it where it belongs.
	r := rand.New(rand.NewPCG(13, 12))
	for _, l := range histories(t, 23) {
		want := plainOf(l)
		for range 3 {
			var held []api.Op
			for _, o := range shuffled(r, append(l, l[:len(l)/2]...)) {
				held, _, _ = put(t, held, o)
			}
			wantOps(t, "what it holds", held, sorted(t, l))
			wantGraph(t, "what that makes", of(t, held), want)
		}
	}
}

// R4: the answers hang on nothing that was asked before.

func TestNothingIsKept(t *testing.T) {
	r := rand.New(rand.NewPCG(13, 13))
	l, _, _ := row()
	lists := append(histories(t, 24)[:6], nil, l, risen(), wrongOnes(at(2, 2)))
	type answer struct {
		sorted, put []api.Op
		place, n    int
		ok          bool
		of, on      *graph.Graph
	}
	base, o := Of(l), marked(at(5, 0), 5)
	ask := func(l []api.Op) answer {
		var a answer
		a.sorted, a.n = Sort(l), Below(Sort(l), at(5, 0))
		a.put, a.place, a.ok = Put(Sort(l), o)
		a.of, a.on = Of(l), On(base, l)
		return a
	}
	var first []answer
	for _, l := range lists {
		first = append(first, ask(l))
	}
	for range 100 {
		k := r.IntN(len(lists))
		a, was := ask(lists[k]), first[k]
		wantOps(t, "Sort", a.sorted, was.sorted)
		wantOps(t, "Put", a.put, was.put)
		if a.place != was.place || a.ok != was.ok || a.n != was.n {
			t.Fatal(a, was)
		}
		wantGraph(t, "Of", a.of, was.of)
		wantGraph(t, "On", a.on, was.on)
		spoil(a.sorted)
		spoil(a.put)
		ruin(a.of)
		ruin(a.on)
	}
}

// Whatever comes.

// decoded is an operation of eight bytes, which may be or not.
func decoded(b []byte) api.Op {
	names := []string{"a", "b", "c", "12345678", "", "..", "a/", "d"}
	stamp := func(x byte) api.Stamp { return at(int64(x%16), int(x/16%9)) }
	// The root and inodes that are made are named more often than others.
	inode := func(x byte) api.Stamp { return at(int64(x%8), int(x/128)) }
	o := api.Op{Stamp: stamp(b[0]), Kind: int(b[1] % 12), At: inode(b[2]), Ino: inode(b[3]), To: inode(b[4]), Name: names[b[5]%8], New: names[b[5]/8%8], Off: int(b[6])%70 - 1, Data: strings.Repeat("x", int(b[7]%66))}
	if b[1] < 192 {
		return fitted(o)
	}
	return o
}

func FuzzFold(f *testing.F) {
	f.Add([]byte{})
	f.Add([]byte{5})
	f.Add([]byte{3, 2, 1, 0, 0, 0, 0, 0, 0, 1, 2, 0, 0, 0, 0, 0, 0})
	f.Add([]byte{18, 1, 1, 0, 0, 0, 0, 0, 0, 2, 1, 0, 0, 0, 1, 0, 0, 19, 7, 0, 2, 1, 9, 0, 0, 3, 7, 0, 1, 2, 0, 0, 0, 4, 6, 0, 1, 0, 0, 0, 0, 4, 5, 0, 1, 0, 0, 0, 0})
	f.Add([]byte{4, 1, 2, 0, 0, 0, 0, 0, 0, 5, 8, 0, 1, 0, 0, 3, 4, 4, 9, 0, 1, 0, 0, 2, 0, 3, 4, 0, 1, 0, 1, 0, 0, 6, 5, 0, 1, 0, 0, 0, 0, 9, 250, 0, 1, 0, 0, 0, 0, 1, 3, 0, 0, 0, 7, 0, 9})
	f.Fuzz(func(t *testing.T, b []byte) {
		s := api.Stamp{}
		if len(b) > 0 {
			s, b = at(int64(b[0]%16), int(b[0]/16%8)), b[1:]
		}
		var l, held []api.Op
		for ; len(b) >= 8 && len(l) < 100; b = b[8:] {
			l = append(l, decoded(b))
			held, _, _ = put(t, held, l[len(l)-1])
		}
		rising := sorted(t, l)
		wantOps(t, "what was put", held, rising)
		n := plainBelow(rising, s)
		wantBelow(t, rising, s, n)
		g := of(t, l)
		wantGraph(t, "split", on(t, of(t, rising[:n]), rising[n:]), g)
		reversed := slices.Clone(rising)
		slices.Reverse(reversed)
		wantGraph(t, "reversed", of(t, reversed), g)
		on(t, g, l)
	})
}
