package undo

import (
	"math"
	"math/rand/v2"
	"slices"
	"strconv"
	"strings"
	"testing"

	"thimble/api"
	"thimble/apply"
	"thimble/audit"
	"thimble/graph"
)

// lists is all that a graph tells: its inodes, and its entries.
type lists struct {
	n []api.Inode
	e []api.Entry
}

func read(g *graph.Graph) lists {
	return lists{g.Inodes(), g.Entries()}
}

func (l lists) same(other lists) bool {
	return slices.Equal(l.n, other.n) && slices.Equal(l.e, other.e)
}

func (l lists) fine() bool {
	return audit.Fine(l.n, l.e)
}

func (l lists) inode(id api.Stamp) (api.Inode, bool) {
	for _, i := range l.n {
		if i.Id == id {
			return i, true
		}
	}
	return api.Inode{}, false
}

// plain is Diff as the chapter's words say it, with lists alone, in which all is looked for whenever it is asked for.
func plain(a, b lists) Record {
	var r Record
	for _, e := range a.e {
		if !slices.Contains(b.e, e) {
			r.Lost = append(r.Lost, e)
		}
	}
	for _, e := range b.e {
		if !slices.Contains(a.e, e) {
			r.Made = append(r.Made, e)
		}
	}
	for _, i := range a.n {
		j, there := b.inode(i.Id)
		if !there || i.Kind != j.Kind || i.Mode != j.Mode || i.Data != j.Data {
			r.Was = append(r.Was, i)
		}
	}
	for _, j := range b.n {
		if _, there := a.inode(j.Id); !there {
			r.New = append(r.New, j.Id)
		}
	}
	return r
}

func (r Record) same(other Record) bool {
	return slices.Equal(r.Lost, other.Lost) && slices.Equal(r.Made, other.Made) && slices.Equal(r.Was, other.Was) && slices.Equal(r.New, other.New) && r.Err == other.Err
}

func (r Record) with(e api.Errno) Record {
	r.Err = e
	return r
}

// cloned is a record that shares nothing with the first one.
func (r Record) cloned() Record {
	return Record{slices.Clone(r.Lost), slices.Clone(r.Made), slices.Clone(r.Was), slices.Clone(r.New), r.Err}
}

func wantErr(t testing.TB, got, want api.Errno) {
	t.Helper()
	if got != want {
		t.Fatalf("error %d; want %d", got, want)
	}
}

func wantLists(t testing.TB, what string, got, want lists) {
	t.Helper()
	if !got.same(want) {
		t.Fatalf("%s:\n%v\nwant\n%v", what, got, want)
	}
}

func wantRecord(t testing.TB, what string, got, want Record) {
	t.Helper()
	if !got.same(want) {
		t.Fatalf("%s:\n%v\nwant\n%v", what, got, want)
	}
}

// id is a stamp of a number: none the root's, and each other one that of a replica of its own, as far as there are so many.
func id(n int) api.Stamp {
	return api.Stamp{Time: int64(n), Rep: n % 8}
}

func ids(l ...int) []api.Stamp {
	var s []api.Stamp
	for _, n := range l {
		s = append(s, id(n))
	}
	return s
}

func in(at int, name string, ino int) api.Entry {
	return api.Entry{At: id(at), Name: name, Ino: id(ino)}
}

func ins(l ...api.Entry) []api.Entry {
	return l
}

// Operations; n is the number of the stamp.

func mkdir(n, at int, name string) api.Op {
	return api.Op{Stamp: id(n), Kind: api.Mkdir, At: id(at), Name: name}
}

func create(n, at int, name string) api.Op {
	return api.Op{Stamp: id(n), Kind: api.Create, At: id(at), Name: name}
}

func symlink(n, at int, name, data string) api.Op {
	return api.Op{Stamp: id(n), Kind: api.Symlink, At: id(at), Name: name, Data: data}
}

func link(n, at, ino int, name string) api.Op {
	return api.Op{Stamp: id(n), Kind: api.Link, At: id(at), Ino: id(ino), Name: name}
}

func unlink(n, at, ino int, name string) api.Op {
	return api.Op{Stamp: id(n), Kind: api.Unlink, At: id(at), Ino: id(ino), Name: name}
}

func rmdir(n, at, ino int, name string) api.Op {
	return api.Op{Stamp: id(n), Kind: api.Rmdir, At: id(at), Ino: id(ino), Name: name}
}

func rename(n, at, ino int, name string, to int, newName string) api.Op {
	return api.Op{Stamp: id(n), Kind: api.Rename, At: id(at), Ino: id(ino), Name: name, To: id(to), New: newName}
}

func write(n, ino, off int, data string) api.Op {
	return api.Op{Stamp: id(n), Kind: api.Write, Ino: id(ino), Off: off, Data: data}
}

func trunc(n, ino, size int) api.Op {
	return api.Op{Stamp: id(n), Kind: api.Trunc, Ino: id(ino), Off: size}
}

func setattr(n, ino, mode int) api.Op {
	return api.Op{Stamp: id(n), Kind: api.Setattr, Ino: id(ino), Off: mode}
}

// Inodes of the graph that laid makes; no is none of them, new neither.
const (
	nRoot  = 0
	nDir   = 1  // a directory in the root: d
	nIn    = 2  // one in nDir: in
	nDeep  = 3  // one in nIn, without entries: deep
	nEmpty = 4  // one in the root, without entries: empty
	nFull  = 5  // one in the root: full
	nFile  = 6  // a file of two names: f in the root and in nDir
	nOne   = 7  // a file of one name, of 64 bytes: one in the root
	nSix   = 8  // a file of six names: 6 in the root, in nDir, nIn and nFull; 61 and 62 in the root
	nBare  = 9  // a file of one name, without data: bare in nFull
	nSym   = 10 // a symbolic link of one name: s in the root
	nTwo   = 11 // a symbolic link of two names: t in the root and in nFull
	nNew   = 20
	nNo    = 30
)

func sixtyFour() string {
	return strings.Repeat("0123456789abcdef", 4)
}

// laidInodes are the inodes of laid's graph, rising, with the links that they have.
func laidInodes() []api.Inode {
	return []api.Inode{
		{Id: id(nRoot), Kind: api.Dir, Mode: 493},
		{Id: id(nDir), Kind: api.Dir, Links: 1, Mode: 7},
		{Id: id(nIn), Kind: api.Dir, Links: 1},
		{Id: id(nDeep), Kind: api.Dir, Links: 1},
		{Id: id(nEmpty), Kind: api.Dir, Links: 1, Mode: 4095},
		{Id: id(nFull), Kind: api.Dir, Links: 1},
		{Id: id(nFile), Kind: api.File, Links: 2, Mode: 420, Data: "text"},
		{Id: id(nOne), Kind: api.File, Links: 1, Mode: 4095, Data: sixtyFour()},
		{Id: id(nSix), Kind: api.File, Links: 6, Data: "6"},
		{Id: id(nBare), Kind: api.File, Links: 1, Mode: 1},
		{Id: id(nSym), Kind: api.Sym, Links: 1, Mode: 511, Data: "/d/in"},
		{Id: id(nTwo), Kind: api.Sym, Links: 2, Data: "one"},
	}
}

// laidEntries are its entries, rising.
func laidEntries() []api.Entry {
	return []api.Entry{
		in(nRoot, "6", nSix), in(nRoot, "61", nSix), in(nRoot, "62", nSix), in(nRoot, "d", nDir), in(nRoot, "empty", nEmpty), in(nRoot, "f", nFile), in(nRoot, "full", nFull), in(nRoot, "one", nOne), in(nRoot, "s", nSym), in(nRoot, "t", nTwo),
		in(nDir, "6", nSix), in(nDir, "f", nFile), in(nDir, "in", nIn),
		in(nIn, "6", nSix), in(nIn, "deep", nDeep),
		in(nFull, "6", nSix), in(nFull, "bare", nBare), in(nFull, "t", nTwo),
	}
}

// was are inodes of laid's graph.
func was(l ...int) []api.Inode {
	var found []api.Inode
	for _, n := range l {
		found = append(found, laidInodes()[n])
	}
	return found
}

// built is the graph of inodes and entries, whatever they are, as far as it may be.
func built(t testing.TB, l lists) *graph.Graph {
	t.Helper()
	g := graph.New()
	for _, i := range l.n {
		if i.Id != id(nRoot) {
			wantErr(t, g.Make(i.Id, i.Kind), api.OK)
		}
		wantErr(t, g.Set(i.Id, i.Mode, i.Data), api.OK)
	}
	for _, e := range l.e {
		wantErr(t, g.Tie(e), api.OK)
	}
	return g
}

// laid is a graph of all sorts that is fine.
func laid(t testing.TB) *graph.Graph {
	t.Helper()
	return built(t, lists{laidInodes(), laidEntries()})
}

// crowded is laid's, and as many files more as there may be inodes: one in the root for each.
func crowded(t testing.TB) *graph.Graph {
	t.Helper()
	g := laid(t)
	for n := 100; len(g.Inodes()) < 40; n++ {
		wantErr(t, apply.Do(g, create(n, nRoot, strconv.Itoa(n))), api.OK)
	}
	return g
}

// chain is a directory in another one, 39 of them below the root; the name of each is d.
func chain(t testing.TB) *graph.Graph {
	t.Helper()
	g := graph.New()
	for n := 1; n < 40; n++ {
		wantErr(t, apply.Do(g, mkdir(n, n-1, "d")), api.OK)
	}
	return g
}

func TestLaid(t *testing.T) {
	l := read(laid(t))
	wantLists(t, "laid", l, lists{laidInodes(), laidEntries()})
	for _, l := range []lists{l, read(crowded(t)), read(chain(t))} {
		if !l.fine() {
			t.Fatal(l)
		}
	}
	if len(crowded(t).Inodes()) != 40 || len(chain(t).Inodes()) != 40 {
		t.Fatal("not 40 inodes")
	}
}

// differ tells Diff, and holds all that is promised of it against what is told.
func differ(t testing.TB, a, b *graph.Graph) Record {
	t.Helper()
	la, lb := read(a), read(b)
	r := Diff(a, b)
	wantRecord(t, "Diff", r, plain(la, lb))
	wantLists(t, "the first one behind Diff", read(a), la)
	wantLists(t, "the second one behind Diff", read(b), lb)
	wantRecord(t, "Diff once more", Diff(a, b), r)
	return r
}

// stepped does an operation to a copy of a graph that is fine, holds all that is promised of it and of taking it back against what is told, and tells the record, and the graph behind it.
func stepped(t testing.TB, g *graph.Graph, o api.Op) (Record, *graph.Graph) {
	t.Helper()
	first, other, c := read(g), g.Copy(), g.Copy()
	e := apply.Do(other, o)
	second := read(other)
	ahead := c.Copy()
	r := Do(c, o)
	wantErr(t, r.Err, e)
	wantLists(t, "behind Do", read(c), second)
	wantRecord(t, "Do", r, plain(first, second).with(e))
	wantRecord(t, "Do and Diff", r, differ(t, g, c).with(e))
	if e != api.OK {
		wantRecord(t, "of an error", r, Record{Err: e})
	}
	wantLists(t, "a copy behind Do", read(ahead), first)

	kept, behind := r.cloned(), c.Copy()
	Back(c, r)
	wantLists(t, "behind Back", read(c), first)
	if !read(c).fine() {
		t.Fatalf("not fine: %v\nbehind %v", read(c), o)
	}
	wantRecord(t, "the record behind Back", r, kept)
	wantLists(t, "a copy behind Back", read(ahead), first)
	wantLists(t, "a copy of what Do left", read(behind), second)

	wantRecord(t, "Do once more", Do(c, o), r)
	wantLists(t, "behind Do once more", read(c), second)
	Back(behind, r)
	wantLists(t, "behind Back of a copy", read(behind), first)
	wantLists(t, "what was copied", read(g), first)
	return r, c
}

// The example.

func TestExample(t *testing.T) {
	g := graph.New()
	r := Do(g, create(1, nRoot, "f"))
	wantRecord(t, "of Create", r, Record{Made: ins(in(nRoot, "f", 1)), New: ids(1)})
	wantLists(t, "behind Create", read(g), lists{[]api.Inode{{Kind: api.Dir}, {Id: id(1), Kind: api.File, Links: 1}}, ins(in(nRoot, "f", 1))})
	Back(g, r)
	wantLists(t, "behind Back", read(g), lists{[]api.Inode{{Kind: api.Dir}}, nil})
}

// P12.1: Diff.

func TestDiffOfAlike(t *testing.T) {
	for _, g := range []*graph.Graph{nil, {}, graph.New(), laid(t), crowded(t), chain(t)} {
		wantRecord(t, "of itself", differ(t, g, g), Record{})
		wantRecord(t, "of a copy", differ(t, g, g.Copy()), Record{})
		wantRecord(t, "of a copy, the other way", differ(t, g.Copy(), g), Record{})
	}
	wantRecord(t, "of two that were made alike", differ(t, laid(t), laid(t)), Record{})
}

func TestDiffOfTheRootAlone(t *testing.T) {
	g := laid(t)
	numbers := ids(nDir, nIn, nDeep, nEmpty, nFull, nFile, nOne, nSix, nBare, nSym, nTwo)
	wantRecord(t, "laid, root", differ(t, g, graph.New()), Record{Lost: laidEntries(), Was: laidInodes()})
	wantRecord(t, "root, laid", differ(t, graph.New(), g), Record{Made: laidEntries(), Was: []api.Inode{{Kind: api.Dir}}, New: numbers})
	// With a root that is alike, which is told in neither.
	wantErr(t, g.Set(id(nRoot), 0, ""), api.OK)
	wantRecord(t, "laid, its root", differ(t, g, graph.New()), Record{Lost: laidEntries(), Was: laidInodes()[1:]})
	wantRecord(t, "its root, laid", differ(t, graph.New(), g), Record{Made: laidEntries(), New: numbers})
}

func TestDiffOfNil(t *testing.T) {
	g := laid(t)
	numbers := ids(nRoot, nDir, nIn, nDeep, nEmpty, nFull, nFile, nOne, nSix, nBare, nSym, nTwo)
	wantRecord(t, "laid, nil", differ(t, g, nil), Record{Lost: laidEntries(), Was: laidInodes()})
	wantRecord(t, "nil, laid", differ(t, nil, g), Record{Made: laidEntries(), New: numbers})
	wantRecord(t, "root, nil", differ(t, graph.New(), nil), Record{Was: []api.Inode{{Kind: api.Dir}}})
	wantRecord(t, "nil, root", differ(t, nil, graph.New()), Record{New: ids(nRoot)})
	wantRecord(t, "nil, nil", differ(t, nil, nil), Record{})
	wantRecord(t, "a graph of nothing, nil", differ(t, &graph.Graph{}, nil), Record{})
	wantRecord(t, "nil, a graph of nothing", differ(t, nil, &graph.Graph{}), Record{})
	wantRecord(t, "laid, a graph of nothing", differ(t, g, &graph.Graph{}), Record{Lost: laidEntries(), Was: laidInodes()})
}

// dirsAnd is the root, two directories in it, a and b, and two files, which have just these entries.
func dirsAnd(t *testing.T, l ...api.Entry) *graph.Graph {
	t.Helper()
	g := built(t, lists{[]api.Inode{{Kind: api.Dir}, {Id: id(1), Kind: api.Dir}, {Id: id(2), Kind: api.Dir}, {Id: id(3), Kind: api.File}, {Id: id(4), Kind: api.File}}, ins(in(nRoot, "a", 1), in(nRoot, "b", 2))})
	for _, e := range l {
		wantErr(t, g.Tie(e), api.OK)
	}
	return g
}

func TestDiffOfEntriesThatDifferInOneThing(t *testing.T) {
	e := in(1, "x", 3)
	for _, other := range []api.Entry{
		in(2, "x", 3),  // At
		in(0, "x", 3),  // At is the root
		in(1, "y", 3),  // Name
		in(1, "xx", 3), // Name, of which the other one is a begin
		in(1, "X", 3),  // Name, by one bit
		in(1, "x", 4),  // Ino
	} {
		a, b := dirsAnd(t, e), dirsAnd(t, other)
		wantRecord(t, "there", differ(t, a, b), Record{Lost: ins(e), Made: ins(other)})
		wantRecord(t, "back", differ(t, b, a), Record{Lost: ins(other), Made: ins(e)})
		// Both are in one of them; then it is told which is alone.
		if other.At == e.At && other.Name == e.Name {
			continue
		}
		both := dirsAnd(t, e, other)
		wantRecord(t, "one more", differ(t, a, both), Record{Made: ins(other)})
		wantRecord(t, "one less", differ(t, both, a), Record{Lost: ins(other)})
		wantRecord(t, "one more, the other one", differ(t, b, both), Record{Made: ins(e)})
		wantRecord(t, "one less, the other one", differ(t, both, b), Record{Lost: ins(e)})
	}
}

func TestDiffOfEntriesWhoseStampsDifferInOneThing(t *testing.T) {
	// Of Ino, and of At, each by Time alone, or by Rep alone.
	first := api.Stamp{Time: 7, Rep: 0}
	for _, other := range []api.Stamp{{Time: 7, Rep: 1}, {Time: 7, Rep: 7}, {Time: 8, Rep: 0}, {Time: 1 << 30, Rep: 0}} {
		for _, x := range []struct {
			kind int
			of   func(s api.Stamp) api.Entry
		}{
			{api.File, func(s api.Stamp) api.Entry { return api.Entry{Name: "x", Ino: s} }},
			{api.Dir, func(s api.Stamp) api.Entry { return api.Entry{At: s, Name: "x", Ino: id(1)} }},
		} {
			tied := func(s api.Stamp) *graph.Graph {
				g := built(t, lists{[]api.Inode{{Kind: api.Dir}, {Id: id(1), Kind: api.File}, {Id: first, Kind: x.kind}, {Id: other, Kind: x.kind}}, nil})
				wantErr(t, g.Tie(x.of(s)), api.OK)
				return g
			}
			wantRecord(t, "there", differ(t, tied(first), tied(other)), Record{Lost: ins(x.of(first)), Made: ins(x.of(other))})
			wantRecord(t, "back", differ(t, tied(other), tied(first)), Record{Lost: ins(x.of(other)), Made: ins(x.of(first))})
		}
	}
}

// only is the root and one inode, that is tied as x so often.
func only(t *testing.T, i api.Inode) *graph.Graph {
	t.Helper()
	g := built(t, lists{[]api.Inode{{Kind: api.Dir}, i}, nil})
	for k := range i.Links {
		wantErr(t, g.Tie(api.Entry{Name: strings.Repeat("x", k+1), Ino: i.Id}), api.OK)
	}
	return g
}

func TestDiffOfInodesThatDifferInOneThing(t *testing.T) {
	first := api.Inode{Id: id(5), Kind: api.File, Links: 1, Mode: 420, Data: "abc"}
	turn := func(f func(i *api.Inode)) api.Inode {
		i := first
		f(&i)
		return i
	}
	for _, other := range []api.Inode{
		turn(func(i *api.Inode) { i.Kind = api.Sym }),
		turn(func(i *api.Inode) { i.Kind = api.Dir }),
		turn(func(i *api.Inode) { i.Mode = 421 }),
		turn(func(i *api.Inode) { i.Mode = 0 }),
		turn(func(i *api.Inode) { i.Mode = 4095 }),
		turn(func(i *api.Inode) { i.Data = "" }),
		turn(func(i *api.Inode) { i.Data = "ab" }),
		turn(func(i *api.Inode) { i.Data = "abc\x00" }),
		turn(func(i *api.Inode) { i.Data = "abd" }),
	} {
		a, b := only(t, first), only(t, other)
		wantRecord(t, "there", differ(t, a, b), Record{Was: []api.Inode{first}})
		wantRecord(t, "back", differ(t, b, a), Record{Was: []api.Inode{other}})
	}
	// Links alone, which are the entries'.
	for links := range 7 {
		other := turn(func(i *api.Inode) { i.Links = links })
		r := differ(t, only(t, first), only(t, other))
		if len(r.Was) != 0 || len(r.New) != 0 || len(r.Lost)+len(r.Made) == 0 != (links == 1) {
			t.Fatal(links, r)
		}
		// With something else they are told as they were.
		other.Mode = 1
		if r := differ(t, only(t, other), only(t, first)); len(r.Was) != 1 || r.Was[0] != other {
			t.Fatal(links, r)
		}
	}
	// The root's mode and data.
	g := graph.New()
	wantErr(t, g.Set(id(nRoot), 5, "x"), api.OK)
	wantRecord(t, "root", differ(t, g, graph.New()), Record{Was: []api.Inode{{Kind: api.Dir, Mode: 5, Data: "x"}}})
	wantRecord(t, "root, back", differ(t, graph.New(), g), Record{Was: []api.Inode{{Kind: api.Dir}}})
}

func TestDiffOfInodesInOneAlone(t *testing.T) {
	for _, kind := range []int{api.Dir, api.File, api.Sym} {
		for links := range 2 {
			i := api.Inode{Id: id(5), Kind: kind, Links: links, Mode: 9, Data: "x"}
			e := ins(in(nRoot, "x", 5))[:links]
			wantRecord(t, "gone", differ(t, only(t, i), graph.New()), Record{Lost: e, Was: []api.Inode{i}})
			wantRecord(t, "new", differ(t, graph.New(), only(t, i)), Record{Made: e, New: ids(5)})
		}
	}
	// Two that are alike but for their numbers, by Time and by Rep.
	for _, other := range []api.Stamp{{Time: 5, Rep: 6}, {Time: 6, Rep: 5}, {Time: 4, Rep: 5}, {Time: 1 << 30, Rep: 5}} {
		a, b := api.Inode{Id: id(5), Kind: api.File, Mode: 9}, api.Inode{Id: other, Kind: api.File, Mode: 9}
		wantRecord(t, "another one", differ(t, only(t, a), only(t, b)), Record{Was: []api.Inode{a}, New: []api.Stamp{other}})
		wantRecord(t, "the other way", differ(t, only(t, b), only(t, a)), Record{Was: []api.Inode{b}, New: ids(5)})
	}
}

func TestDiffTellsInTurn(t *testing.T) {
	// Stamps and names that rise; the graphs are made in any order.
	stamps := []api.Stamp{{Time: 1, Rep: 0}, {Time: 1, Rep: 7}, {Time: 2, Rep: 0}, {Time: 2, Rep: 3}, {Time: 9, Rep: 1}, {Time: 10, Rep: 0}, {Time: 1 << 30, Rep: 0}, {Time: 1 << 30, Rep: 7}}
	names := []string{"\x01", "!", "A", "B", "a", "a\x01", "aa", "ab", "b", "\x7f", "\x80", "\xff\xff"}
	var n []api.Inode
	var e []api.Entry
	for k, s := range stamps {
		n = append(n, api.Inode{Id: s, Kind: api.Dir, Links: 1})
		e = append(e, api.Entry{Name: names[k], Ino: s})
	}
	// A file of each directory, and a name of its own in each.
	var files []api.Inode
	for k := range stamps {
		files = append(files, api.Inode{Id: api.Stamp{Time: 20, Rep: k}, Kind: api.File, Links: 1})
	}
	n = slices.Concat(n[:6], files, n[6:])
	for k, s := range stamps {
		e = append(e, api.Entry{At: s, Name: names[k+4], Ino: files[k].Id})
	}
	r := rand.New(rand.NewPCG(12, 1))
	for range 50 {
		g := graph.New()
		for _, k := range r.Perm(len(n)) {
			wantErr(t, g.Make(n[k].Id, n[k].Kind), api.OK)
		}
		for _, k := range r.Perm(len(e)) {
			wantErr(t, g.Tie(e[k]), api.OK)
		}
		var numbers []api.Stamp
		for _, i := range n {
			numbers = append(numbers, i.Id)
		}
		wantRecord(t, "gone", differ(t, g, graph.New()), Record{Lost: e, Was: n})
		wantRecord(t, "new", differ(t, graph.New(), g), Record{Made: e, New: numbers})
		// Of some that are otherwise, and of some entries.
		turned, cut := g.Copy(), g.Copy()
		var some []api.Inode
		var gone []api.Entry
		for k, i := range n {
			if r.IntN(2) == 0 {
				some = append(some, i)
				wantErr(t, turned.Set(i.Id, 1, ""), api.OK)
			}
			if r.IntN(2) == 0 {
				gone = append(gone, e[k])
				_, err := cut.Untie(e[k].At, e[k].Name)
				wantErr(t, err, api.OK)
			}
		}
		wantRecord(t, "turned", differ(t, g, turned), Record{Was: some})
		wantRecord(t, "cut", differ(t, g, cut), Record{Lost: gone})
		wantRecord(t, "cut, back", differ(t, cut, g), Record{Made: gone})
	}
}

// P12.1: what each kind of operation turns.

func TestRecordsOfWhatMakes(t *testing.T) {
	g := laid(t)
	for _, at := range []int{nRoot, nDir, nDeep, nEmpty} {
		for _, o := range []api.Op{mkdir(nNew, at, "new"), create(nNew, at, "new"), symlink(nNew, at, "new", "x"), symlink(nNew, at, "new", sixtyFour()[:32])} {
			wantStep(t, g, o, Record{Made: ins(in(at, "new", nNew)), New: ids(nNew)})
		}
	}
	for _, x := range []struct {
		o api.Op
		e api.Errno
	}{
		{mkdir(nNew, nRoot, ""), api.ErrArg}, {create(nNew, nRoot, "a/b"), api.ErrArg}, {symlink(nNew, nRoot, "new", ""), api.ErrArg}, {mkdir(0, nRoot, "new"), api.ErrArg},
		{mkdir(nNew, nNo, "new"), api.ErrNone}, {create(nNew, nNo, "new"), api.ErrNone}, {symlink(nNew, nNo, "new", "x"), api.ErrNone},
		{mkdir(nNew, nFile, "new"), api.ErrFile}, {create(nNew, nSym, "new"), api.ErrFile}, {symlink(nNew, nOne, "new", "x"), api.ErrFile},
		{mkdir(nNew, nRoot, "d"), api.ErrThere}, {create(nNew, nDir, "f"), api.ErrThere}, {symlink(nNew, nFull, "t", "x"), api.ErrThere},
		{mkdir(nFile, nRoot, "new"), api.ErrThere}, {create(nFile, nRoot, "new"), api.ErrThere}, {symlink(nSym, nRoot, "new", "x"), api.ErrThere},
	} {
		wantStep(t, g, x.o, Record{Err: x.e})
	}
	for _, o := range []api.Op{mkdir(nNew, nRoot, "new"), create(nNew, nDir, "new"), symlink(nNew, nDeep, "new", "x")} {
		wantStep(t, crowded(t), o, Record{Err: api.ErrSpace})
	}
}

// wantStep wants just this record of an operation.
func wantStep(t testing.TB, g *graph.Graph, o api.Op, want Record) *graph.Graph {
	t.Helper()
	r, c := stepped(t, g, o)
	wantRecord(t, "the record", r, want)
	return c
}

func TestRecordsOfLink(t *testing.T) {
	g := laid(t)
	for _, ino := range []int{nFile, nOne, nBare, nSym, nTwo} {
		for _, at := range []int{nRoot, nDir, nDeep, nEmpty} {
			wantStep(t, g, link(nNew, at, ino, "new"), Record{Made: ins(in(at, "new", ino))})
		}
	}
	for _, x := range []struct {
		o api.Op
		e api.Errno
	}{
		{link(nNew, nRoot, nOne, "."), api.ErrArg}, {link(nNew, nNo, nOne, "new"), api.ErrNone}, {link(nNew, nRoot, nNo, "new"), api.ErrNone}, {link(nNew, nFile, nOne, "new"), api.ErrFile},
		{link(nNew, nRoot, nDir, "new"), api.ErrDir}, {link(nNew, nRoot, nOne, "f"), api.ErrThere}, {link(nNew, nRoot, nOne, "one"), api.ErrThere}, {link(nNew, nRoot, nSix, "new"), api.ErrLinks},
	} {
		wantStep(t, g, x.o, Record{Err: x.e})
	}
}

func TestRecordsOfUnlink(t *testing.T) {
	g := laid(t)
	// The last name: the inode is gone, too, and is told with the link that it had.
	wantStep(t, g, unlink(nNew, nRoot, nOne, "one"), Record{Lost: ins(in(nRoot, "one", nOne)), Was: was(nOne)})
	wantStep(t, g, unlink(nNew, nFull, nBare, "bare"), Record{Lost: ins(in(nFull, "bare", nBare)), Was: was(nBare)})
	wantStep(t, g, unlink(nNew, nRoot, nSym, "s"), Record{Lost: ins(in(nRoot, "s", nSym)), Was: was(nSym)})
	// One of two or six: the inode stays, and its links alone are others.
	for _, e := range laidEntries() {
		if e.Ino == id(nFile) || e.Ino == id(nSix) || e.Ino == id(nTwo) {
			wantStep(t, g, api.Op{Stamp: id(nNew), Kind: api.Unlink, At: e.At, Ino: e.Ino, Name: e.Name}, Record{Lost: ins(e)})
		}
	}
	// One of two, and then the last one.
	c := wantStep(t, g, unlink(nNew, nRoot, nFile, "f"), Record{Lost: ins(in(nRoot, "f", nFile))})
	i := was(nFile)[0]
	i.Links = 1
	wantStep(t, c, unlink(nNew+1, nDir, nFile, "f"), Record{Lost: ins(in(nDir, "f", nFile)), Was: []api.Inode{i}})
	for _, x := range []struct {
		o api.Op
		e api.Errno
	}{
		{unlink(nNew, nRoot, nOne, ""), api.ErrArg}, {unlink(nNew, nRoot, nOne, "new"), api.ErrNone}, {unlink(nNew, nRoot, nOne, "f"), api.ErrNone}, {unlink(nNew, nNo, nOne, "one"), api.ErrNone}, {unlink(nNew, nRoot, nRoot, "new"), api.ErrNone},
		{unlink(nNew, nRoot, nDir, "d"), api.ErrDir}, {unlink(nNew, nRoot, nEmpty, "empty"), api.ErrDir},
	} {
		wantStep(t, g, x.o, Record{Err: x.e})
	}
}

func TestRecordsOfRmdir(t *testing.T) {
	g := laid(t)
	wantStep(t, g, rmdir(nNew, nRoot, nEmpty, "empty"), Record{Lost: ins(in(nRoot, "empty", nEmpty)), Was: was(nEmpty)})
	wantStep(t, g, rmdir(nNew, nIn, nDeep, "deep"), Record{Lost: ins(in(nIn, "deep", nDeep)), Was: was(nDeep)})
	for _, x := range []struct {
		o api.Op
		e api.Errno
	}{
		{rmdir(nNew, nRoot, nEmpty, "/"), api.ErrArg}, {rmdir(nNew, nRoot, nEmpty, "new"), api.ErrNone}, {rmdir(nNew, nDir, nDeep, "deep"), api.ErrNone}, {rmdir(nNew, nRoot, nRoot, "d"), api.ErrNone},
		{rmdir(nNew, nRoot, nOne, "one"), api.ErrFile}, {rmdir(nNew, nRoot, nSym, "s"), api.ErrFile}, {rmdir(nNew, nRoot, nDir, "d"), api.ErrFull}, {rmdir(nNew, nDir, nIn, "in"), api.ErrFull},
	} {
		wantStep(t, g, x.o, Record{Err: x.e})
	}
}

func TestRecordsOfRename(t *testing.T) {
	g := laid(t)
	for _, x := range []struct {
		o api.Op
		r Record
	}{
		// Without a target: in the same directory, into one ahead and one behind, files and links of one name and of several, directories.
		{rename(nNew, nRoot, nOne, "one", nRoot, "new"), Record{Lost: ins(in(nRoot, "one", nOne)), Made: ins(in(nRoot, "new", nOne))}},
		{rename(nNew, nRoot, nOne, "one", nFull, "one"), Record{Lost: ins(in(nRoot, "one", nOne)), Made: ins(in(nFull, "one", nOne))}},
		{rename(nNew, nFull, nBare, "bare", nRoot, "bare"), Record{Lost: ins(in(nFull, "bare", nBare)), Made: ins(in(nRoot, "bare", nBare))}},
		{rename(nNew, nRoot, nSym, "s", nDeep, "x"), Record{Lost: ins(in(nRoot, "s", nSym)), Made: ins(in(nDeep, "x", nSym))}},
		{rename(nNew, nDir, nFile, "f", nEmpty, "f"), Record{Lost: ins(in(nDir, "f", nFile)), Made: ins(in(nEmpty, "f", nFile))}},
		{rename(nNew, nRoot, nSix, "61", nDeep, "61"), Record{Lost: ins(in(nRoot, "61", nSix)), Made: ins(in(nDeep, "61", nSix))}},
		{rename(nNew, nRoot, nDir, "d", nRoot, "new"), Record{Lost: ins(in(nRoot, "d", nDir)), Made: ins(in(nRoot, "new", nDir))}},
		{rename(nNew, nRoot, nDir, "d", nEmpty, "d"), Record{Lost: ins(in(nRoot, "d", nDir)), Made: ins(in(nEmpty, "d", nDir))}},
		{rename(nNew, nIn, nDeep, "deep", nRoot, "deep"), Record{Lost: ins(in(nIn, "deep", nDeep)), Made: ins(in(nRoot, "deep", nDeep))}},
		{rename(nNew, nRoot, nEmpty, "empty", nDeep, "empty"), Record{Lost: ins(in(nRoot, "empty", nEmpty)), Made: ins(in(nDeep, "empty", nEmpty))}},
		// A target whose inode goes, ahead of the entry and behind it.
		{rename(nNew, nRoot, nOne, "one", nRoot, "s"), Record{Lost: ins(in(nRoot, "one", nOne), in(nRoot, "s", nSym)), Made: ins(in(nRoot, "s", nOne)), Was: was(nSym)}},
		{rename(nNew, nRoot, nSym, "s", nRoot, "one"), Record{Lost: ins(in(nRoot, "one", nOne), in(nRoot, "s", nSym)), Made: ins(in(nRoot, "one", nSym)), Was: was(nOne)}},
		{rename(nNew, nRoot, nFile, "f", nFull, "bare"), Record{Lost: ins(in(nRoot, "f", nFile), in(nFull, "bare", nBare)), Made: ins(in(nFull, "bare", nFile)), Was: was(nBare)}},
		{rename(nNew, nFull, nBare, "bare", nRoot, "one"), Record{Lost: ins(in(nRoot, "one", nOne), in(nFull, "bare", nBare)), Made: ins(in(nRoot, "one", nBare)), Was: was(nOne)}},
		{rename(nNew, nDir, nSix, "6", nRoot, "s"), Record{Lost: ins(in(nRoot, "s", nSym), in(nDir, "6", nSix)), Made: ins(in(nRoot, "s", nSix)), Was: was(nSym)}},
		{rename(nNew, nRoot, nDir, "d", nRoot, "empty"), Record{Lost: ins(in(nRoot, "d", nDir), in(nRoot, "empty", nEmpty)), Made: ins(in(nRoot, "empty", nDir)), Was: was(nEmpty)}},
		{rename(nNew, nIn, nDeep, "deep", nRoot, "empty"), Record{Lost: ins(in(nRoot, "empty", nEmpty), in(nIn, "deep", nDeep)), Made: ins(in(nRoot, "empty", nDeep)), Was: was(nEmpty)}},
		{rename(nNew, nRoot, nFull, "full", nIn, "deep"), Record{Lost: ins(in(nRoot, "full", nFull), in(nIn, "deep", nDeep)), Made: ins(in(nIn, "deep", nFull)), Was: was(nDeep)}},
		// A target whose inode stays: its links alone are others.
		{rename(nNew, nRoot, nOne, "one", nRoot, "f"), Record{Lost: ins(in(nRoot, "f", nFile), in(nRoot, "one", nOne)), Made: ins(in(nRoot, "f", nOne))}},
		{rename(nNew, nRoot, nOne, "one", nIn, "6"), Record{Lost: ins(in(nRoot, "one", nOne), in(nIn, "6", nSix)), Made: ins(in(nIn, "6", nOne))}},
		{rename(nNew, nRoot, nSix, "62", nDir, "f"), Record{Lost: ins(in(nRoot, "62", nSix), in(nDir, "f", nFile)), Made: ins(in(nDir, "f", nSix))}},
		{rename(nNew, nFull, nTwo, "t", nRoot, "6"), Record{Lost: ins(in(nRoot, "6", nSix), in(nFull, "t", nTwo)), Made: ins(in(nRoot, "6", nTwo))}},
		// Onto itself, and onto another name of its inode.
		{rename(nNew, nRoot, nOne, "one", nRoot, "one"), Record{}},
		{rename(nNew, nRoot, nDir, "d", nRoot, "d"), Record{}},
		{rename(nNew, nIn, nDeep, "deep", nIn, "deep"), Record{}},
		{rename(nNew, nRoot, nFile, "f", nDir, "f"), Record{}},
		{rename(nNew, nDir, nFile, "f", nRoot, "f"), Record{}},
		{rename(nNew, nRoot, nSix, "6", nRoot, "61"), Record{}},
		{rename(nNew, nFull, nSix, "6", nIn, "6"), Record{}},
		{rename(nNew, nRoot, nTwo, "t", nFull, "t"), Record{}},
		// Errors.
		{rename(nNew, nRoot, nOne, "one", nRoot, ".."), Record{Err: api.ErrArg}},
		{rename(nNew, nRoot, nOne, "new", nRoot, "x"), Record{Err: api.ErrNone}},
		{rename(nNew, nRoot, nOne, "one", nNo, "x"), Record{Err: api.ErrNone}},
		{rename(nNew, nRoot, nOne, "one", nFile, "x"), Record{Err: api.ErrFile}},
		{rename(nNew, nRoot, nDir, "d", nDeep, "x"), Record{Err: api.ErrInval}},
		{rename(nNew, nRoot, nOne, "one", nRoot, "empty"), Record{Err: api.ErrDir}},
		{rename(nNew, nRoot, nEmpty, "empty", nRoot, "one"), Record{Err: api.ErrFile}},
		{rename(nNew, nRoot, nEmpty, "empty", nRoot, "full"), Record{Err: api.ErrFull}},
	} {
		wantStep(t, g, x.o, x.r)
	}
}

func TestRecordsOfWriteTruncAndSetattr(t *testing.T) {
	g := laid(t)
	// What turns something: the inode as it was.
	for _, o := range []api.Op{
		write(nNew, nFile, 0, "T"), write(nNew, nFile, 4, "s"), write(nNew, nFile, 5, "\x00"), write(nNew, nFile, 63, "x"), write(nNew, nFile, 0, sixtyFour()),
		write(nNew, nOne, 63, "x"), write(nNew, nOne, 0, "1"), write(nNew, nSix, 1, "6"), write(nNew, nBare, 0, "\x00"), write(nNew, nBare, 63, "\x00"),
		trunc(nNew, nFile, 0), trunc(nNew, nFile, 3), trunc(nNew, nFile, 5), trunc(nNew, nFile, 64), trunc(nNew, nOne, 63), trunc(nNew, nSix, 0), trunc(nNew, nBare, 1),
		setattr(nNew, nFile, 0), setattr(nNew, nFile, 421), setattr(nNew, nFile, 4095), setattr(nNew, nRoot, 0), setattr(nNew, nRoot, 494), setattr(nNew, nDir, 8), setattr(nNew, nDeep, 1), setattr(nNew, nOne, 4094), setattr(nNew, nSix, 4095), setattr(nNew, nSym, 510), setattr(nNew, nTwo, 1),
	} {
		n := int(o.Ino.Time)
		wantStep(t, g, o, Record{Was: was(n)})
	}
	// What turns nothing.
	for _, o := range []api.Op{
		write(nNew, nFile, 0, "text"), write(nNew, nFile, 0, "t"), write(nNew, nFile, 1, "ex"), write(nNew, nFile, 3, "t"), write(nNew, nOne, 0, sixtyFour()), write(nNew, nOne, 63, "f"), write(nNew, nSix, 0, "6"),
		trunc(nNew, nFile, 4), trunc(nNew, nOne, 64), trunc(nNew, nSix, 1), trunc(nNew, nBare, 0),
		setattr(nNew, nFile, 420), setattr(nNew, nRoot, 493), setattr(nNew, nDir, 7), setattr(nNew, nDeep, 0), setattr(nNew, nOne, 4095), setattr(nNew, nSix, 0), setattr(nNew, nSym, 511), setattr(nNew, nTwo, 0),
	} {
		wantStep(t, g, o, Record{})
	}
	for _, x := range []struct {
		o api.Op
		e api.Errno
	}{
		{write(nNew, nFile, 0, ""), api.ErrArg}, {write(nNew, nFile, 64, "x"), api.ErrArg}, {trunc(nNew, nFile, 65), api.ErrArg}, {trunc(nNew, nFile, -1), api.ErrArg}, {setattr(nNew, nFile, 4096), api.ErrArg}, {setattr(nNew, nFile, -1), api.ErrArg},
		{write(nNew, nNo, 0, "x"), api.ErrNone}, {trunc(nNew, nNo, 0), api.ErrNone}, {setattr(nNew, nNo, 0), api.ErrNone},
		{write(nNew, nRoot, 0, "x"), api.ErrDir}, {trunc(nNew, nDeep, 0), api.ErrDir}, {write(nNew, nSym, 0, "x"), api.ErrInval}, {trunc(nNew, nTwo, 0), api.ErrInval},
	} {
		wantStep(t, g, x.o, Record{Err: x.e})
	}
}

func TestRecordsOfWhatMayNotBe(t *testing.T) {
	for _, g := range []*graph.Graph{graph.New(), laid(t), crowded(t)} {
		for _, o := range []api.Op{{}, {Stamp: id(nNew)}, {Stamp: id(nNew), Kind: 11}, {Stamp: id(nNew), Kind: -1, Name: "f"}, {Stamp: id(nNew), Kind: math.MaxInt}, {Stamp: api.Stamp{Time: 1, Rep: 8}, Kind: api.Mkdir, Name: "x"}, {Stamp: id(nNew), Kind: api.Mkdir, Name: "x", Off: 1}} {
			wantStep(t, g, o, Record{Err: api.ErrArg})
		}
	}
}

// pool is one operation of each kind that can be done to laid's graph, and some that can't.
func pool() []api.Op {
	return []api.Op{
		mkdir(nNew, nDir, "new"), create(nNew, nDir, "new"), symlink(nNew, nDir, "new", "x"), link(nNew, nDir, nOne, "new"), unlink(nNew, nRoot, nOne, "one"),
		rmdir(nNew, nRoot, nEmpty, "empty"), rename(nNew, nRoot, nOne, "one", nRoot, "s"), write(nNew, nFile, 1, "x"), trunc(nNew, nFile, 1), setattr(nNew, nFile, 1),
		{}, mkdir(nNew, nNo, "new"), rmdir(nNew, nRoot, nFull, "full"), rename(nNew, nRoot, nDir, "d", nIn, "x"), write(nNew, nRoot, 0, "x"),
	}
}

func TestDoOfNil(t *testing.T) {
	for _, o := range pool() {
		wantRecord(t, "of nil", Do(nil, o), Record{Err: api.ErrArg})
	}
}

func TestDoOfAGraphOfNothing(t *testing.T) {
	// What New didn't make has no inode: whatever apply tells, nothing is turned.
	for _, o := range pool() {
		g := &graph.Graph{}
		r := Do(g, o)
		wantRecord(t, "of nothing", r, Record{Err: apply.Why(&graph.Graph{}, o)})
		if r.Err == api.OK {
			t.Fatal(o)
		}
		Back(g, r)
		wantLists(t, "of nothing", read(g), lists{})
	}
}

// P12.2: Back.

func TestBackOfNil(t *testing.T) {
	Back(nil, Record{})
	for _, o := range pool() {
		Back(nil, Do(laid(t), o))
	}
	Back(nil, Diff(laid(t), nil))
	Back(nil, Diff(nil, laid(t)))
}

func TestBackOfNothing(t *testing.T) {
	for _, g := range []*graph.Graph{graph.New(), laid(t), crowded(t), chain(t)} {
		first := read(g)
		for _, r := range []Record{{}, {Err: api.ErrArg}, {Err: api.ErrThere}, {Lost: ins(), Made: ins(), Was: []api.Inode{}, New: ids()}, Diff(g, g), Diff(nil, nil)} {
			Back(g, r)
			wantLists(t, "behind nothing", read(g), first)
		}
	}
}

func TestBackWithFortyInodes(t *testing.T) {
	g := crowded(t)
	for _, e := range g.Entries() {
		i, _ := g.Get(e.Ino)
		stepped(t, g, api.Op{Stamp: id(nNew), Kind: api.Unlink, At: e.At, Ino: e.Ino, Name: e.Name})
		stepped(t, g, api.Op{Stamp: id(nNew), Kind: api.Rmdir, At: e.At, Ino: e.Ino, Name: e.Name})
		stepped(t, g, api.Op{Stamp: id(nNew), Kind: api.Setattr, Ino: e.Ino, Off: 1 + i.Mode%4000})
		for _, to := range g.Entries() {
			stepped(t, g, api.Op{Stamp: id(nNew), Kind: api.Rename, At: e.At, Ino: e.Ino, Name: e.Name, To: to.At, New: to.Name})
		}
	}
	// One goes, and one comes in its place; both are taken back.
	for _, gone := range []api.Op{unlink(nNew, nRoot, nOne, "one"), unlink(nNew, nRoot, nSym, "s"), rmdir(nNew, nRoot, nEmpty, "empty"), rename(nNew, nRoot, nFile, "f", nFull, "bare")} {
		for _, come := range []api.Op{mkdir(nNew+1, nRoot, "new"), create(nNew+1, nDir, "new"), symlink(nNew+1, nRoot, "new", "x"), mkdir(nOne, nRoot, "new"), create(nSym, nRoot, "s")} {
			c := g.Copy()
			r1, r2 := Do(c, gone), Do(c, come)
			wantErr(t, r1.Err, api.OK)
			Back(c, r2)
			Back(c, r1)
			wantLists(t, "behind both", read(c), read(g))
		}
	}
	// The last one that there is room for, and the next one.
	c := graph.New()
	for n := 1; n < 40; n++ {
		c = wantStep(t, c, create(n, nRoot, strconv.Itoa(n)), Record{Made: ins(in(nRoot, strconv.Itoa(n), n)), New: ids(n)})
	}
	wantStep(t, c, create(40, nRoot, "40"), Record{Err: api.ErrSpace})
}

func TestBackDeepDown(t *testing.T) {
	g := chain(t)
	for n := 1; n < 40; n++ {
		stepped(t, g, rmdir(50, n-1, n, "d"))
		stepped(t, g, setattr(50, n, n))
		for _, to := range []int{0, 1, n - 1, n, 39} {
			stepped(t, g, rename(50, n-1, n, "d", to, "x"))
			stepped(t, g, rename(50, n-1, n, "d", to, "d"))
		}
	}
}

func TestBackWithSixLinks(t *testing.T) {
	g := laid(t)
	for _, e := range laidEntries() {
		if e.Ino != id(nSix) {
			continue
		}
		at := int(e.At.Time)
		wantStep(t, g, unlink(nNew, at, nSix, e.Name), Record{Lost: ins(e)})
		wantStep(t, g, rename(nNew, at, nSix, e.Name, nDeep, "new"), Record{Lost: ins(e), Made: ins(in(nDeep, "new", nSix))})
		stepped(t, g, rename(nNew, at, nSix, e.Name, nRoot, "one"))
		stepped(t, g, rename(nNew, nRoot, nOne, "one", at, e.Name))
		// One goes, another one comes in its place; both are taken back.
		c := g.Copy()
		r1, r2 := Do(c, unlink(nNew, at, nSix, e.Name)), Do(c, link(nNew+1, nEmpty, nSix, "new"))
		wantErr(t, r1.Err, api.OK)
		wantErr(t, r2.Err, api.OK)
		Back(c, r2)
		Back(c, r1)
		wantLists(t, "behind both", read(c), lists{laidInodes(), laidEntries()})
	}
	// Down from six to none, and back again.
	c := laid(t)
	var records []Record
	for _, e := range laidEntries() {
		if e.Ino == id(nSix) {
			records = append(records, Do(c, api.Op{Stamp: id(nNew), Kind: api.Unlink, At: e.At, Ino: e.Ino, Name: e.Name}))
		}
	}
	if _, there := c.Get(id(nSix)); there || len(records) != 6 || len(records[5].Was) != 1 || records[5].Was[0].Links != 1 {
		t.Fatal(records)
	}
	for k, r := range slices.Backward(records) {
		Back(c, r)
		if i, there := c.Get(id(nSix)); !there || i.Links != 6-k || i.Data != "6" {
			t.Fatal(k, i)
		}
	}
	wantLists(t, "behind six", read(c), lists{laidInodes(), laidEntries()})
}

func TestWhatIsBackCanBeUsed(t *testing.T) {
	// A directory that went and came back can hold entries; its name is taken, and can go again.
	c := laid(t)
	Back(c, Do(c, rmdir(nNew, nRoot, nEmpty, "empty")))
	wantErr(t, apply.Do(c, create(nNew, nEmpty, "x")), api.OK)
	wantErr(t, apply.Do(c, mkdir(nNew+1, nRoot, "empty")), api.ErrThere)
	wantErr(t, apply.Do(c, rmdir(nNew+2, nRoot, nEmpty, "empty")), api.ErrFull)
	wantErr(t, apply.Do(c, unlink(nNew+3, nEmpty, nNew, "x")), api.OK)
	wantErr(t, apply.Do(c, rmdir(nNew+4, nRoot, nEmpty, "empty")), api.OK)
	// What was made and taken back can be made again, also as something else.
	c = graph.New()
	Back(c, Do(c, mkdir(1, nRoot, "a")))
	wantStep(t, c, create(1, nRoot, "a"), Record{Made: ins(in(nRoot, "a", 1)), New: ids(1)})
	// A directory that moved and came back has what is in it, and what it is in.
	c = laid(t)
	Back(c, Do(c, rename(nNew, nRoot, nDir, "d", nEmpty, "d")))
	if at, there := c.Parent(id(nDir)); !there || at != id(nRoot) || !c.Under(id(nDeep), id(nDir)) || len(c.List(id(nEmpty))) != 0 || len(c.List(id(nDir))) != 3 {
		t.Fatal(read(c))
	}
}

// TestBackOfRecordsOfNobody: of these nothing is promised but that it ends, and doesn't panic.
func TestBackOfRecordsOfNobody(t *testing.T) {
	stamps := []api.Stamp{{}, id(nDir), id(nFile), id(nNo), {Time: -1, Rep: -1}, {Time: math.MaxInt64, Rep: math.MaxInt}, {Time: math.MinInt64, Rep: math.MinInt}, {Time: 1, Rep: 8}}
	var r Record
	for _, s := range stamps {
		for _, name := range []string{"", "d", "f", "x", "..", "a/b", "\x00", strings.Repeat("x", 300)} {
			for _, other := range stamps {
				r.Made = append(r.Made, api.Entry{At: s, Name: name, Ino: other})
				r.Lost = append(r.Lost, api.Entry{At: other, Name: name, Ino: s})
			}
		}
		for _, kind := range []int{0, 1, 2, 3, 4, -1, math.MaxInt} {
			r.Was = append(r.Was, api.Inode{Id: s, Kind: kind, Links: kind, Mode: -1, Data: strings.Repeat("x", 100)})
		}
		r.New = append(r.New, s, s)
	}
	for _, g := range []*graph.Graph{nil, {}, graph.New(), laid(t), crowded(t)} {
		kept := r.cloned()
		Back(g, r)
		Back(g, Record{Lost: r.Lost, New: r.New})
		Back(g, Record{Made: r.Made, Was: r.Was})
		wantRecord(t, "a record", r, kept)
		// Records of other graphs, too.
		for _, o := range pool() {
			Back(g, Do(laid(t), o))
			Back(g, Do(g, o))
			Back(g, Do(g.Copy(), o))
		}
		Back(g, Diff(g, laid(t)))
		Back(g, Diff(laid(t), g))
	}
}

// P12.3: rows of operations.

// row does operations to a graph, one behind the other, takes all back, the last one first, does them again, and takes all back; each time it wants all as it was at each step.
func row(t testing.TB, g *graph.Graph, l []api.Op) {
	t.Helper()
	at, again := []lists{read(g)}, g.Copy()
	var records []Record
	for range 2 {
		records = records[:0]
		for k, o := range l {
			records = append(records, Do(g, o))
			wantErr(t, apply.Do(again, o), records[k].Err)
			if len(at) <= k+1 {
				at = append(at, read(again))
			}
			wantLists(t, "behind an operation", read(g), at[k+1])
		}
		for k, r := range slices.Backward(records) {
			Back(g, r)
			wantLists(t, "behind what was taken back", read(g), at[k])
			if !at[k].fine() {
				t.Fatal(at[k])
			}
		}
		again = g.Copy()
	}
}

func TestARow(t *testing.T) {
	l := []api.Op{
		mkdir(1, 0, "d"), mkdir(2, 1, "e"), create(3, 2, "f"), symlink(4, 1, "s", "e/f"), link(5, 0, 3, "g"), write(6, 3, 2, "xy"), setattr(7, 3, 420), setattr(8, 0, 493), rename(9, 1, 2, "e", 0, "e"), trunc(10, 3, 3),
		create(11, 0, "d"), unlink(12, 2, 3, "f"), rmdir(13, 0, 2, "e"), unlink(14, 0, 3, "g"), rename(15, 1, 4, "s", 0, "d2"), rmdir(16, 0, 1, "d"), setattr(17, 0, 0), unlink(18, 0, 4, "d2"),
	}
	g := graph.New()
	var records []Record
	for _, o := range l {
		records = append(records, Do(g, o))
	}
	wantLists(t, "at the end", read(g), lists{[]api.Inode{{Kind: api.Dir}}, nil})
	file := api.Inode{Id: id(3), Kind: api.File, Links: 1}
	two, fresh := file, file
	two.Links, two.Data = 2, "\x00\x00xy"
	fresh.Links = 2
	moded := two
	moded.Mode = 420
	cut := moded
	cut.Links, cut.Data = 1, "\x00\x00x"
	for k, want := range []Record{
		{Made: ins(in(0, "d", 1)), New: ids(1)},
		{Made: ins(in(1, "e", 2)), New: ids(2)},
		{Made: ins(in(2, "f", 3)), New: ids(3)},
		{Made: ins(in(1, "s", 4)), New: ids(4)},
		{Made: ins(in(0, "g", 3))},
		{Was: []api.Inode{fresh}},
		{Was: []api.Inode{two}},
		{Was: []api.Inode{{Kind: api.Dir}}},
		{Lost: ins(in(1, "e", 2)), Made: ins(in(0, "e", 2))},
		{Was: []api.Inode{moded}},
		{Err: api.ErrThere},
		{Lost: ins(in(2, "f", 3))},
		{Lost: ins(in(0, "e", 2)), Was: []api.Inode{{Id: id(2), Kind: api.Dir, Links: 1}}},
		{Lost: ins(in(0, "g", 3)), Was: []api.Inode{cut}},
		{Lost: ins(in(1, "s", 4)), Made: ins(in(0, "d2", 4))},
		{Lost: ins(in(0, "d", 1)), Was: []api.Inode{{Id: id(1), Kind: api.Dir, Links: 1}}},
		{Was: []api.Inode{{Kind: api.Dir, Mode: 493}}},
		{Lost: ins(in(0, "d2", 4)), Was: []api.Inode{{Id: id(4), Kind: api.Sym, Links: 1, Data: "e/f"}}},
	} {
		wantRecord(t, "step "+strconv.Itoa(k), records[k], want)
	}
	for _, r := range slices.Backward(records) {
		Back(g, r)
	}
	wantLists(t, "behind all", read(g), lists{[]api.Inode{{Kind: api.Dir}}, nil})
	row(t, g, l)
}

// TestAllRows does all rows of three operations to a graph of the root alone.
func TestAllRows(t *testing.T) {
	l := []api.Op{
		mkdir(1, 0, "a"), mkdir(2, 0, "b"), mkdir(3, 1, "c"), mkdir(4, 2, "a"), create(5, 0, "a"), create(5, 1, "f"), symlink(6, 0, "b", "a"), link(7, 1, 5, "a"), link(7, 0, 5, "g"), link(7, 0, 1, "g"),
		unlink(8, 0, 5, "a"), unlink(8, 1, 5, "f"), unlink(8, 0, 6, "b"), rmdir(9, 0, 1, "a"), rmdir(9, 0, 2, "b"), rmdir(9, 1, 3, "c"),
		rename(10, 0, 1, "a", 2, "a"), rename(10, 0, 2, "b", 1, "c"), rename(10, 0, 1, "a", 0, "b"), rename(10, 0, 2, "b", 0, "a"), rename(10, 0, 5, "a", 1, "f"), rename(10, 0, 6, "b", 0, "a"), rename(10, 0, 5, "a", 0, "g"), rename(10, 1, 3, "c", 0, "a"),
		write(11, 5, 1, "x"), trunc(12, 5, 1), setattr(13, 1, 5), setattr(13, 0, 6),
	}
	for _, a := range l {
		_, g1 := stepped(t, graph.New(), a)
		for _, b := range l {
			_, g2 := stepped(t, g1, b)
			for _, c := range l {
				stepped(t, g2, c)
			}
			row(t, graph.New(), []api.Op{a, b, a, b, b, a})
		}
	}
}

// some picks one of a list.
func some[T any](r *rand.Rand, l []T) T {
	return l[r.IntN(len(l))]
}

// drawn is an operation of things that a graph has, or hasn't.
func drawn(r *rand.Rand, l lists, n, kind int, names []string) api.Op {
	inode := func() api.Stamp {
		if r.IntN(15) == 0 {
			return id(n + 1)
		}
		return some(r, l.n).Id
	}
	dir := func() api.Stamp {
		for range 5 {
			if i, _ := l.inode(inode()); i.Kind == api.Dir {
				return i.Id
			}
		}
		return inode()
	}
	o := api.Op{Stamp: id(n), Kind: kind}
	switch kind {
	case api.Mkdir, api.Create, api.Symlink:
		o.At, o.Name = dir(), some(r, names)
	case api.Link:
		o.At, o.Ino, o.Name = dir(), inode(), some(r, names)
	case api.Unlink, api.Rmdir, api.Rename:
		o.At, o.Ino, o.Name = dir(), inode(), some(r, names)
		if len(l.e) > 0 && r.IntN(10) > 0 {
			e := some(r, l.e)
			o.At, o.Ino, o.Name = e.At, e.Ino, e.Name
		}
	case api.Write:
		o.Ino = inode()
	case api.Trunc:
		o.Ino, o.Off = inode(), r.IntN(65)
	case api.Setattr:
		o.Ino, o.Off = inode(), r.IntN(4096)
	}
	if kind == api.Rename {
		o.To, o.New = dir(), some(r, names)
	}
	if kind == api.Symlink || kind == api.Write {
		o.Data = sixtyFour()[:1+r.IntN(12)]
	}
	if kind == api.Write {
		o.Off = r.IntN(65 - len(o.Data))
	}
	return o
}

// walk draws operations of some kinds, steps through them from a graph on, and tells them, and where they lead.
func walk(t testing.TB, r *rand.Rand, g *graph.Graph, steps int, kinds []int, names []string, told map[int]int) ([]api.Op, *graph.Graph) {
	t.Helper()
	var l []api.Op
	for k := range steps {
		o := drawn(r, read(g), 200+k, some(r, kinds), names)
		record, c := stepped(t, g, o)
		if record.Err == api.OK {
			told[o.Kind]++
		}
		l, g = append(l, o), c
	}
	return l, g
}

func allKinds() []int {
	return []int{1, 2, 3, 4, 5, 6, 7, 8, 9, 10}
}

func TestLongRows(t *testing.T) {
	r := rand.New(rand.NewPCG(12, 2))
	told := map[int]int{}
	for k := range 30 {
		names := []string{"a", "b", "c", "d", "e", "f"}[:2+k%5]
		kinds := allKinds()
		if k%3 == 0 {
			kinds = []int{1, 1, 1, 2, 2, 3, 4, 4, 4, 7, 7, 10}
		}
		l, _ := walk(t, r, graph.New(), 120, kinds, names, told)
		row(t, graph.New(), l)
	}
	for range 4 {
		for _, g := range []*graph.Graph{crowded(t), laid(t), chain(t)} {
			l, _ := walk(t, r, g, 50, []int{1, 2, 3, 4, 5, 6, 7, 7, 8, 10}, []string{"d", "empty", "f", "6", "x", "y"}, told)
			row(t, g, l)
		}
	}
	for _, kind := range allKinds() {
		if told[kind] < 25 {
			t.Error(kind, told)
		}
	}
}

// TestPlacesInBetween: operations are taken back down to some place, one is done there, and the others are done again.
func TestPlacesInBetween(t *testing.T) {
	r := rand.New(rand.NewPCG(12, 3))
	told := map[int]int{}
	for range 15 {
		l, _ := walk(t, r, graph.New(), 40, allKinds(), []string{"a", "b", "c"}, told)
		for range 10 {
			// All but one, and then that one at its place.
			at := r.IntN(len(l))
			g := graph.New()
			var records []Record
			for k, o := range l {
				if k != at {
					records = append(records, Do(g, o))
				}
			}
			for _, record := range slices.Backward(records[at:]) {
				Back(g, record)
			}
			want := graph.New()
			for _, o := range l[:at] {
				apply.Do(want, o)
			}
			wantLists(t, "down to it", read(g), read(want))
			for _, o := range l[at:] {
				wantErr(t, Do(g, o).Err, apply.Do(want, o))
			}
			wantLists(t, "behind all", read(g), read(want))
		}
	}
}

func TestDiffOfDrawnGraphs(t *testing.T) {
	r := rand.New(rand.NewPCG(12, 4))
	told := map[int]int{}
	graphs := []*graph.Graph{nil, {}, graph.New(), laid(t), crowded(t), chain(t)}
	for range 20 {
		for _, from := range []*graph.Graph{graph.New(), laid(t)} {
			_, g := walk(t, r, from, 30, allKinds(), []string{"a", "b", "d", "f"}, told)
			graphs = append(graphs, g)
		}
	}
	for _, a := range graphs {
		for _, b := range graphs {
			there, back := differ(t, a, b), differ(t, b, a)
			if !slices.Equal(there.Lost, back.Made) || !slices.Equal(there.Made, back.Lost) || there.Err != api.OK {
				t.Fatal(there, back)
			}
		}
	}
}

// TestNothingElse: what a record doesn't tell is as it was, and what it tells isn't.
func TestNothingElse(t *testing.T) {
	r := rand.New(rand.NewPCG(12, 5))
	g := laid(t)
	for n := range 400 {
		o := drawn(r, read(g), 200+n, 1+r.IntN(10), []string{"d", "f", "one", "empty", "x", "y"})
		first := read(g)
		record := Do(g, o)
		for _, e := range first.e {
			now, there := g.Look(e.At, e.Name)
			if (there && now == e.Ino) == slices.Contains(record.Lost, e) {
				t.Fatal(e, record)
			}
		}
		for _, e := range g.Entries() {
			if slices.Contains(first.e, e) == slices.Contains(record.Made, e) {
				t.Fatal(e, record)
			}
		}
		for _, i := range first.n {
			now, _ := g.Get(i.Id)
			i.Links, now.Links = 0, 0
			told := slices.ContainsFunc(record.Was, func(j api.Inode) bool { return j.Id == i.Id })
			if (i == now) == told {
				t.Fatal(i, now, record)
			}
		}
		for _, i := range g.Inodes() {
			if _, there := first.inode(i.Id); there == slices.Contains(record.New, i.Id) {
				t.Fatal(i, record)
			}
		}
		if n%3 == 0 {
			Back(g, record)
			wantLists(t, "behind Back", read(g), first)
		}
	}
}

// R3: nothing is shared.

// spoil turns all that a record's lists hold, and what is behind their ends.
func spoil(r Record) {
	for _, l := range [][]api.Entry{r.Lost[:cap(r.Lost)], r.Made[:cap(r.Made)]} {
		for k := range l {
			l[k] = api.Entry{At: id(77), Name: "spoiled", Ino: id(78)}
		}
	}
	was, ids := r.Was[:cap(r.Was)], r.New[:cap(r.New)]
	for k := range was {
		was[k] = api.Inode{Id: id(79), Kind: 9, Data: "spoiled"}
	}
	for k := range ids {
		ids[k] = id(80)
	}
}

func TestRecordsShareNothing(t *testing.T) {
	for _, o := range pool() {
		g := laid(t)
		first := read(g)
		r := Do(g, o)
		second, kept := read(g), r.cloned()
		spoil(r)
		wantLists(t, "behind what was spoiled", read(g), second)
		wantRecord(t, "Diff then", Diff(laid(t), g).with(kept.Err), kept)
		// What Back was given, spoiled behind it.
		given := kept.cloned()
		Back(g, given)
		spoil(given)
		wantLists(t, "behind Back", read(g), first)
		wantRecord(t, "Do then", Do(g, o), kept)
	}
	a, b := laid(t), chain(t)
	la, lb := read(a), read(b)
	spoil(Diff(a, b))
	spoil(Diff(b, a))
	spoil(Diff(a, nil))
	spoil(Diff(nil, b))
	wantLists(t, "the first one", read(a), la)
	wantLists(t, "the second one", read(b), lb)
}

func TestListsOfARecordShareNothing(t *testing.T) {
	spoilers := []func(r Record){
		func(r Record) { spoil(Record{Lost: r.Lost}) },
		func(r Record) { spoil(Record{Made: r.Made}) },
		func(r Record) { spoil(Record{Was: r.Was}) },
		func(r Record) { spoil(Record{New: r.New}) },
	}
	for k, f := range spoilers {
		r := Diff(laid(t), chain(t))
		if len(r.Lost) == 0 || len(r.Made) == 0 || len(r.Was) == 0 || len(r.New) == 0 {
			t.Fatal(r)
		}
		kept := r.cloned()
		f(r)
		changed := []bool{!slices.Equal(r.Lost, kept.Lost), !slices.Equal(r.Made, kept.Made), !slices.Equal(r.Was, kept.Was), !slices.Equal(r.New, kept.New)}
		for other, is := range changed {
			if is != (other == k) {
				t.Fatal(k, other)
			}
		}
	}
}

// TestCopiesStay: copies made at any time hold what they held then, and can be taken back by themselves.
func TestCopiesStay(t *testing.T) {
	r := rand.New(rand.NewPCG(12, 6))
	l, _ := walk(t, r, laid(t), 40, allKinds(), []string{"d", "f", "x", "y"}, map[int]int{})
	g := laid(t)
	copies, at := []*graph.Graph{g.Copy()}, []lists{read(g)}
	var records []Record
	for _, o := range l {
		records = append(records, Do(g, o))
		copies, at = append(copies, g.Copy()), append(at, read(g))
	}
	for k := range copies {
		wantLists(t, "a copy", read(copies[k]), at[k])
	}
	for k := len(records); k > 0; k-- {
		Back(copies[k], records[k-1])
		wantLists(t, "a copy, taken back", read(copies[k]), at[k-1])
		wantLists(t, "the copy ahead of it", read(copies[k-1]), at[k-1])
	}
	wantLists(t, "the graph itself", read(g), at[len(l)])
}

// R4: the answers hang on nothing that was asked before.

func TestNothingIsKept(t *testing.T) {
	r := rand.New(rand.NewPCG(12, 7))
	graphs := []*graph.Graph{nil, {}, graph.New(), laid(t), crowded(t), chain(t)}
	var asked []func() Record
	for _, g := range graphs {
		for _, o := range pool() {
			asked = append(asked, func() Record { return Do(g.Copy(), o) })
		}
		for _, other := range graphs {
			asked = append(asked, func() Record { return Diff(g, other) })
		}
	}
	first := make([]Record, len(asked))
	for k, ask := range asked {
		first[k] = ask()
	}
	other := crowded(t)
	for range 5 {
		for _, k := range r.Perm(len(asked)) {
			record := asked[k]()
			wantRecord(t, "asked again", record, first[k])
			switch r.IntN(4) {
			case 0:
				Back(other, record)
			case 1:
				Do(other, some(r, pool()))
			case 2:
				spoil(record)
			}
		}
	}
}

// P1, P12.2, P12.3: whatever comes, it ends, and can be taken back.

// decoded is an operation of eight bytes, which may be or not.
func decoded(b []byte) api.Op {
	names := []string{"a", "b", "c", "d", "", ".", "a/", "12345678"}
	stamp := func(x byte) api.Stamp { return id(int(x % 16)) }
	o := api.Op{Stamp: stamp(b[0]), Kind: int(b[1] % 12), At: stamp(b[2]), Ino: stamp(b[3]), To: stamp(b[4]), Name: names[b[5]%8], New: names[b[5]/8%8], Off: int(b[6])%68 - 1, Data: sixtyFour()[:b[7]%65]}
	if b[7] >= 128 {
		// Often as it would be with the fields alone that its kind has.
		switch o.Kind {
		case 1, 2:
			return api.Op{Stamp: o.Stamp, Kind: o.Kind, At: o.At, Name: o.Name}
		case 3:
			return api.Op{Stamp: o.Stamp, Kind: o.Kind, At: o.At, Name: o.Name, Data: o.Data}
		case 4, 5, 6:
			return api.Op{Stamp: o.Stamp, Kind: o.Kind, At: o.At, Ino: o.Ino, Name: o.Name}
		case 7:
			return api.Op{Stamp: o.Stamp, Kind: o.Kind, At: o.At, Ino: o.Ino, To: o.To, Name: o.Name, New: o.New}
		case 8:
			return api.Op{Stamp: o.Stamp, Kind: o.Kind, Ino: o.Ino, Off: o.Off, Data: o.Data}
		case 9, 10:
			return api.Op{Stamp: o.Stamp, Kind: o.Kind, Ino: o.Ino, Off: o.Off}
		}
	}
	return o
}

func FuzzBack(f *testing.F) {
	f.Add([]byte{})
	f.Add([]byte{1, 1, 0, 0, 0, 0, 0, 128, 2, 1, 1, 0, 0, 1, 0, 128, 3, 7, 0, 1, 2, 8, 0, 128})
	f.Add([]byte{1, 2, 0, 0, 0, 0, 0, 128, 2, 4, 0, 1, 0, 1, 0, 128, 3, 8, 0, 1, 0, 0, 5, 140, 4, 5, 0, 1, 0, 0, 0, 128, 5, 5, 0, 1, 0, 1, 0, 128})
	f.Add([]byte{1, 1, 0, 0, 0, 0, 0, 128, 2, 1, 0, 0, 0, 1, 0, 128, 3, 7, 0, 1, 2, 8, 0, 128, 4, 7, 0, 2, 1, 1, 0, 128, 5, 6, 2, 1, 0, 0, 0, 128})
	f.Fuzz(func(t *testing.T, b []byte) {
		g := graph.New()
		var l []api.Op
		for ; len(b) >= 8; b = b[8:] {
			l = append(l, decoded(b))
			_, g = stepped(t, g, l[len(l)-1])
		}
		row(t, graph.New(), l)
	})
}
