package oplog

import (
	"math"
	"math/rand/v2"
	"slices"
	"strconv"
	"strings"
	"testing"

	"thimble/api"
	"thimble/apply"
	"thimble/audit"
	"thimble/fold"
	"thimble/graph"
	"thimble/op"
	"thimble/stamp"
)

// Stamps and operations.

func at(time int64, rep int) api.Stamp {
	return api.Stamp{Time: time, Rep: rep}
}

// id is the stamp of a time, of the replica 0; of 0 it is the root's.
func id(time int) api.Stamp {
	return at(int64(time), 0)
}

func mkdir(s, dir api.Stamp, name string) api.Op {
	return api.Op{Stamp: s, Kind: api.Mkdir, At: dir, Name: name}
}

func create(s, dir api.Stamp, name string) api.Op {
	return api.Op{Stamp: s, Kind: api.Create, At: dir, Name: name}
}

func link(s, dir, ino api.Stamp, name string) api.Op {
	return api.Op{Stamp: s, Kind: api.Link, At: dir, Ino: ino, Name: name}
}

func unlink(s, dir, ino api.Stamp, name string) api.Op {
	return api.Op{Stamp: s, Kind: api.Unlink, At: dir, Ino: ino, Name: name}
}

func rmdir(s, dir, ino api.Stamp, name string) api.Op {
	return api.Op{Stamp: s, Kind: api.Rmdir, At: dir, Ino: ino, Name: name}
}

func rename(s, dir, ino api.Stamp, name string, to api.Stamp, other string) api.Op {
	return api.Op{Stamp: s, Kind: api.Rename, At: dir, Ino: ino, Name: name, To: to, New: other}
}

func write(s, ino api.Stamp, off int, data string) api.Op {
	return api.Op{Stamp: s, Kind: api.Write, Ino: ino, Off: off, Data: data}
}

// marked is an operation of that stamp that can be told from others of it by its mark, from 0 to 4095: the root's mode.
func marked(s api.Stamp, mark int) api.Op {
	return api.Op{Stamp: s, Kind: api.Setattr, Off: mark}
}

// markedAt are operations of times, of the replica 0; the mark of each is its place in the list, from 1 on.
func markedAt(times ...int) []api.Op {
	var l []api.Op
	for k, time := range times {
		l = append(l, marked(id(time), k+1))
	}
	return l
}

// fields lets an operation have those alone that its kind has.
func fields(o api.Op) api.Op {
	kept := api.Op{Stamp: o.Stamp, Kind: o.Kind}
	if slices.Contains([]int{1, 2, 3, 4, 5, 6, 7}, o.Kind) {
		kept.At, kept.Name = o.At, o.Name
	}
	if slices.Contains([]int{4, 5, 6, 7, 8, 9, 10}, o.Kind) {
		kept.Ino = o.Ino
	}
	switch o.Kind {
	case api.Symlink:
		kept.Data = o.Data
	case api.Rename:
		kept.To, kept.New = o.To, o.New
	case api.Write:
		kept.Off, kept.Data = o.Off, o.Data
	case api.Trunc, api.Setattr:
		kept.Off = o.Off
	}
	return kept
}

// ofEachKind is an operation of each kind, all of that stamp; they may be, if it may.
func ofEachKind(s api.Stamp) []api.Op {
	var l []api.Op
	for kind := range 10 {
		l = append(l, fields(api.Op{Stamp: s, Kind: kind + 1, At: id(0), Ino: id(1), To: id(2), Name: "a", New: "b", Off: 3, Data: "x"}))
	}
	return l
}

// wrongOnes are operations that may not be, though that stamp may: of kinds that there aren't, and with fields that may not be, or that their kinds haven't.
func wrongOnes(s api.Stamp) []api.Op {
	l := []api.Op{
		{}, {Kind: -1}, {Kind: 11}, {Kind: math.MaxInt}, {Name: "a"},
		mkdir(s, id(0), ""), mkdir(s, id(0), "."), mkdir(s, id(0), ".."), create(s, id(0), "a/b"), create(s, id(0), "123456789"), link(s, id(0), id(1), "\x00"), mkdir(s, at(0, 1), "a"), create(s, at(1, 8), "a"), unlink(s, id(0), at(-1, 0), "a"), rename(s, id(0), id(1), "a", id(0), ""), rename(s, id(0), id(1), "a", at(1<<30+1, 0), "b"),
		write(s, id(1), 0, ""), write(s, id(1), 64, "x"), write(s, id(1), -1, "x"), marked(s, 4096), marked(s, -1), {Kind: api.Trunc, Off: 65}, {Kind: api.Symlink, Name: "a"}, {Kind: api.Symlink, Name: "a", Data: strings.Repeat("x", 33)},
		{Kind: api.Mkdir, Name: "a", Off: 1}, {Kind: api.Create, Name: "a", Data: "x"}, {Kind: api.Setattr, Name: "a"}, {Kind: api.Link, Name: "a", To: id(1)},
	}
	for k := range l {
		l[k].Stamp = s
	}
	return l
}

// wrongStamps are stamps that may not be, rising.
func wrongStamps() []api.Stamp {
	return []api.Stamp{at(math.MinInt64, math.MinInt), at(math.MinInt64, 0), at(-1, 0), at(-1, 7), at(0, -1), at(0, 1), at(0, 7), at(1, -1), at(1, 8), at(5, -1), at(5, 8), at(1<<30, -1), at(1<<30, 8), at(1<<30+1, 0), at(1<<30+1, 7), at(math.MaxInt64, 0), at(math.MaxInt64, math.MaxInt)}
}

func TestWhatTheTestsMake(t *testing.T) {
	for _, o := range slices.Concat(ofEachKind(at(5, 3)), ofEachKind(at(1, 0)), ofEachKind(at(1<<30, 7))) {
		if !op.May(o) {
			t.Error(o)
		}
	}
	for k, o := range wrongOnes(at(5, 3)) {
		if op.May(o) {
			t.Error(k, o)
		}
	}
	for _, s := range append(wrongStamps(), id(0)) {
		if stamp.May(s) != (s == id(0)) || s != id(0) && stamp.May(s) != maybe(s) {
			t.Error(s)
		}
		for _, o := range ofEachKind(s) {
			if op.May(o) {
				t.Error(o)
			}
		}
	}
}

// A log as the chapter's words say it: operations in a list, each graph made anew.

func above(a, b api.Stamp) bool {
	return a.Time > b.Time || a.Time == b.Time && a.Rep > b.Rep
}

// maybe tells whether a stamp may be.
func maybe(s api.Stamp) bool {
	return s == api.Stamp{} || 1 <= s.Time && s.Time <= 1<<30 && 0 <= s.Rep && s.Rep <= 7
}

type plain struct {
	base  *graph.Graph
	floor api.Stamp
	ops   []api.Op
}

func plainFrom(base *graph.Graph, floor api.Stamp, l []api.Op) *plain {
	p := &plain{base: base.Copy(), floor: floor}
	for _, o := range l {
		p.add(o)
	}
	return p
}

func (p *plain) has(s api.Stamp) bool {
	return !above(s, p.floor) || slices.ContainsFunc(p.ops, func(o api.Op) bool { return o.Stamp == s })
}

func (p *plain) add(o api.Op) bool {
	if !op.May(o) || p.has(o.Stamp) {
		return false
	}
	p.ops = append(slices.Clone(p.ops), o)
	slices.SortFunc(p.ops, func(a, b api.Op) int {
		if above(a.Stamp, b.Stamp) {
			return 1
		}
		return -1
	})
	return true
}

func (p *plain) compact(s api.Stamp) int {
	n := 0
	if !maybe(s) || !above(s, p.floor) {
		return 0
	}
	for ; n < len(p.ops) && !above(p.ops[n].Stamp, s); n++ {
		apply.Do(p.base, p.ops[n])
	}
	p.ops, p.floor = p.ops[n:], s
	return n
}

func (p *plain) graph() *graph.Graph {
	return behind(p.base, p.ops...)
}

func (p *plain) copied() *plain {
	return &plain{base: p.base.Copy(), floor: p.floor, ops: slices.Clone(p.ops)}
}

// behind is a graph behind operations, done one by one.
func behind(g *graph.Graph, l ...api.Op) *graph.Graph {
	g = g.Copy()
	for _, o := range l {
		apply.Do(g, o)
	}
	return g
}

// What is wanted of a log.

func wantOps(t testing.TB, what string, got, want []api.Op) {
	t.Helper()
	if !slices.Equal(got, want) {
		t.Fatalf("%s:\n%v\nwant\n%v", what, got, want)
	}
}

func wantGraph(t testing.TB, what string, got, want *graph.Graph) {
	t.Helper()
	if (got == nil) != (want == nil) || !slices.Equal(got.Inodes(), want.Inodes()) || !slices.Equal(got.Entries(), want.Entries()) {
		t.Fatalf("%s:\n%v\n%v\nwant\n%v\n%v", what, got.Inodes(), got.Entries(), want.Inodes(), want.Entries())
	}
}

// wantLists wants a log whose graph has just these inodes and entries beside the root.
func wantLists(t testing.TB, what string, l *Log, n []api.Inode, e []api.Entry) {
	t.Helper()
	g := l.Graph()
	if !slices.Equal(g.Inodes()[1:], n) || !slices.Equal(g.Entries(), e) {
		t.Fatalf("%s:\n%v\n%v\nwant\n%v\n%v", what, g.Inodes()[1:], g.Entries(), n, e)
	}
}

func wantFine(t testing.TB, g *graph.Graph) {
	t.Helper()
	if !audit.Fine(g.Inodes(), g.Entries()) {
		t.Fatalf("faults %v:\n%v\n%v", audit.Check(g.Inodes(), g.Entries()), g.Inodes(), g.Entries())
	}
}

// around are stamps, those next to them, and some that may not be.
func around(l ...api.Stamp) []api.Stamp {
	near := append(wrongStamps(), id(0), at(1, 0), at(1<<30, 7))
	for _, s := range l {
		near = append(near, s, at(s.Time, s.Rep-1), at(s.Time, s.Rep+1), at(s.Time-1, s.Rep), at(s.Time+1, s.Rep))
	}
	return near
}

// wantLog wants a log that answers as the plain one does, and whose graph is what its base and its operations make.
func wantLog(t testing.TB, what string, l *Log, p *plain) {
	t.Helper()
	wantOps(t, what+": operations", l.Ops(), p.ops)
	if l.Floor() != p.floor {
		t.Fatalf("%s: the floor %v, want %v", what, l.Floor(), p.floor)
	}
	wantGraph(t, what+": base", l.Base(), p.base)
	wantGraph(t, what+": graph", l.Graph(), p.graph())
	wantGraph(t, what+": the theorem", l.Graph(), fold.On(l.Base(), l.Ops()))
	stamps := []api.Stamp{p.floor}
	for k, o := range p.ops {
		stamps = append(stamps, o.Stamp)
		if !above(o.Stamp, p.floor) || k > 0 && !above(o.Stamp, p.ops[k-1].Stamp) || !op.May(o) {
			t.Fatalf("%s: the operation %d: %v", what, k, o)
		}
	}
	for _, s := range around(stamps...) {
		if l.Has(s) != p.has(s) {
			t.Fatalf("%s: Has of %v: %t; floor %v, operations\n%v", what, s, l.Has(s), p.floor, p.ops)
		}
	}
}

// spoil turns all that a list holds, and what is behind its end.
func spoil(l []api.Op) {
	l = l[:cap(l)]
	for k := range l {
		l[k] = api.Op{Stamp: at(77, 7), Kind: 77, Name: "spoiled"}
	}
}

// ruin turns a graph as much as can be.
func ruin(g *graph.Graph) {
	for _, e := range g.Entries() {
		g.Untie(e.At, e.Name)
	}
	for _, i := range g.Inodes() {
		g.Drop(i.Id)
		g.Set(i.Id, 4000, "ruined")
	}
	g.Make(at(7, 7), api.File)
	g.Tie(api.Entry{Name: "ruined", Ino: at(7, 7)})
}

// wantApart wants a log as the plain one is, even when all that it answers is spoiled, and a copy of it goes on.
func wantApart(t testing.TB, what string, l *Log, p *plain) {
	t.Helper()
	wantLog(t, what, l, p)
	c := l.Copy()
	ruin(l.Graph())
	ruin(l.Base())
	spoil(l.Ops())
	wantLog(t, what+", what it answered spoiled", l, p)
	for _, s := range around(p.floor) {
		l.Copy().Add(marked(s, 99))
	}
	l.Copy().Compact(at(1<<30, 7))
	wantLog(t, what+", its copies gone on", l, p)
	wantLog(t, what+", a copy of it", c, p)
	// Taken back one by one, down to the base.
	for k := len(c.ops) - 1; k >= 0; k-- {
		c.back(k)
	}
	wantGraph(t, what+", all taken back", c.all, p.base)
	wantLog(t, what+", a copy of it taken back", l, p)
}

// both are a log, and a plain one to which the same is done.
type both struct {
	testing.TB
	log   *Log
	plain *plain
}

// lent is a list that has room behind its end, in which something stands; and what tells whether all that is as it was.
func lent(l []api.Op) ([]api.Op, func() bool) {
	whole := append(slices.Clone(l), ofEachKind(at(6, 6))[:4]...)
	was := slices.Clone(whole)
	return whole[:len(l)], func() bool { return slices.Equal(whole, was) }
}

// from is From, held against all that is promised of it.
func from(t testing.TB, base *graph.Graph, floor api.Stamp, l []api.Op) both {
	t.Helper()
	given, kept := lent(l)
	was := base.Copy()
	b := both{t, From(base, floor, given), plainFrom(base, floor, l)}
	wantLog(t, "From", b.log, b.plain)
	turn := b.log.Copy()
	turn.Compact(at(1<<30, 7))
	wantGraph(t, "what From was given", base, was)
	if !kept() {
		t.Fatalf("From turned what it was given: %v", given)
	}
	// The same as if each came by itself, also when what it was given is spoiled.
	c := was.Copy()
	one := From(c, floor, nil)
	for _, o := range l {
		one.Add(o)
	}
	other := From(c, floor, given)
	ruin(c)
	spoil(given)
	wantLog(t, "one by one, the base ruined", one, b.plain)
	wantApart(t, "From, what it was given spoiled", other, b.plain)
	return b
}

func begun(t testing.TB, l ...api.Op) both {
	t.Helper()
	return from(t, graph.New(), id(0), l)
}

func (b both) check(what string) {
	b.Helper()
	wantLog(b, what, b.log, b.plain)
}

// add adds an operation to both, and wants the same answer, and the same logs behind it.
func (b both) add(o api.Op) bool {
	b.Helper()
	got, want := b.log.Add(o), b.plain.add(o)
	if got != want {
		b.Fatalf("Add of %v: %t, want %t; floor %v, operations\n%v", o, got, want, b.plain.floor, b.plain.ops)
	}
	b.check("behind Add")
	return got
}

func (b both) compact(s api.Stamp) int {
	b.Helper()
	was := b.log.Graph()
	got, want := b.log.Compact(s), b.plain.compact(s)
	if got != want {
		b.Fatalf("Compact of %v: %d, want %d; floor %v, operations\n%v", s, got, want, b.plain.floor, b.plain.ops)
	}
	b.check("behind Compact")
	wantGraph(b, "behind Compact", b.log.Graph(), was)
	return got
}

func (b both) copied() both {
	return both{b, b.log.Copy(), b.plain.copied()}
}

// wantAdd wants that an operation is added, or not, by a copy of both.
func (b both) wantAdd(o api.Op, want bool) both {
	b.Helper()
	c := b.copied()
	if c.add(o) != want {
		b.Fatalf("Add of %v: %t, want %t; floor %v, operations\n%v", o, !want, want, b.plain.floor, b.plain.ops)
	}
	if !want {
		wantLog(b, "nothing added", c.log, b.plain)
	}
	b.check("a copy goes on")
	return c
}

func (b both) wantCompact(s api.Stamp, want int) both {
	b.Helper()
	c := b.copied()
	if n := c.compact(s); n != want {
		b.Fatalf("Compact of %v: %d, want %d; floor %v, operations\n%v", s, n, want, b.plain.floor, b.plain.ops)
	}
	b.check("a copy is compacted")
	return c
}

// orders goes through a list in all orders.
func orders(l []api.Op, yield func(l []api.Op)) {
	var from func(k int)
	from = func(k int) {
		if k >= len(l)-1 {
			yield(slices.Clone(l))
			return
		}
		for j := k; j < len(l); j++ {
			l[k], l[j] = l[j], l[k]
			from(k + 1)
			l[k], l[j] = l[j], l[k]
		}
	}
	l = slices.Clone(l)
	from(0)
}

func reversed(l []api.Op) []api.Op {
	l = slices.Clone(l)
	slices.Reverse(l)
	return l
}

func shuffled(r *rand.Rand, l []api.Op) []api.Op {
	l = slices.Clone(l)
	r.Shuffle(len(l), func(i, j int) { l[i], l[j] = l[j], l[i] })
	return l
}

func some[T any](r *rand.Rand, l []T) T {
	return l[r.IntN(len(l))]
}

// row is operations that rise, of which some can't be done.
func row() []api.Op {
	return []api.Op{
		mkdir(id(1), id(0), "d"),
		create(id(2), id(1), "f"),
		create(id(3), id(9), "x"), // nine isn't there yet
		write(id(4), id(2), 1, "abc"),
		mkdir(id(5), id(0), "d"), // d is there
		link(id(6), id(0), id(2), "g"),
		unlink(id(7), id(1), id(2), "f"),
		rmdir(id(8), id(0), id(1), "d"),
		mkdir(id(9), id(0), "d"),
		{Stamp: at(9, 1), Kind: api.Symlink, At: id(9), Name: "s", Data: "../g"},
		create(at(9, 2), id(1), "y"), // one is gone
		rename(id(10), id(0), id(2), "g", id(9), "g"),
		{Stamp: id(11), Kind: api.Trunc, Ino: id(2), Off: 3},
		{Stamp: id(12), Kind: api.Setattr, Ino: id(2), Off: 420},
		rmdir(id(13), id(0), id(9), "d"), // it has entries
	}
}

func wantRow(t testing.TB, what string, l *Log) {
	t.Helper()
	wantLists(t, what, l,
		[]api.Inode{{Id: id(2), Kind: api.File, Links: 1, Mode: 420, Data: "\x00ab"}, {Id: id(9), Kind: api.Dir, Links: 1}, {Id: at(9, 1), Kind: api.Sym, Links: 1, Data: "../g"}},
		[]api.Entry{{Name: "d", Ino: id(9)}, {At: id(9), Name: "g", Ino: id(2)}, {At: id(9), Name: "s", Ino: at(9, 1)}})
}

// The example.

func TestExample(t *testing.T) {
	for _, x := range []struct{ low, high api.Stamp }{{at(3, 1), at(4, 0)}, {at(3, 1), at(3, 2)}, {at(1, 0), at(1<<30, 7)}} {
		b := begun(t)
		b.add(create(x.high, id(0), "a"))
		wantLists(t, "the later one alone", b.log, []api.Inode{{Id: x.high, Kind: api.File, Links: 1}}, []api.Entry{{Name: "a", Ino: x.high}})
		b.add(mkdir(x.low, id(0), "a"))
		wantLists(t, "the earlier one", b.log, []api.Inode{{Id: x.low, Kind: api.Dir, Links: 1}}, []api.Entry{{Name: "a", Ino: x.low}})
		wantOps(t, "both", b.log.Ops(), []api.Op{mkdir(x.low, id(0), "a"), create(x.high, id(0), "a")})
	}
}

// P14.1: New and From.

func TestNew(t *testing.T) {
	l := New()
	if l == nil || l.Floor() != id(0) || len(l.Ops()) != 0 {
		t.Fatal(l)
	}
	wantGraph(t, "the graph", l.Graph(), graph.New())
	wantGraph(t, "the base", l.Base(), graph.New())
	wantApart(t, "New", l, plainFrom(graph.New(), id(0), nil))
	for _, s := range wrongStamps() {
		if l.Has(s) != (s.Time < 0 || s.Time == 0 && s.Rep < 0) {
			t.Error(s, l.Has(s))
		}
	}
	if !l.Has(id(0)) || l.Has(id(1)) || l.Has(at(1<<30, 7)) {
		t.Error("Has")
	}
	// Two of them share nothing.
	other := New()
	other.Add(mkdir(id(1), id(0), "a"))
	other.Compact(id(4))
	wantLog(t, "New, another one turned", l, plainFrom(graph.New(), id(0), nil))
}

func TestFromNothing(t *testing.T) {
	g := behind(graph.New(), row()...)
	for _, l := range [][]api.Op{nil, {}, row(), wrongOnes(at(3, 3))} {
		for _, floor := range append(wrongStamps(), id(0), id(5), at(1<<30, 7)) {
			if got := From(nil, floor, l); got != nil {
				t.Error("a nil base", floor, got)
			}
		}
		for _, floor := range wrongStamps() {
			if got := From(g, floor, l); got != nil {
				t.Error("a wrong floor", floor, got)
			}
		}
	}
	wantGraph(t, "the base", g, behind(graph.New(), row()...))
}

func TestFromNoOperations(t *testing.T) {
	for _, base := range []*graph.Graph{graph.New(), behind(graph.New(), row()[:4]...), behind(graph.New(), row()...)} {
		for _, floor := range []api.Stamp{id(0), at(1, 0), at(1, 7), id(4), at(9, 2), id(13), at(1<<30, 0), at(1<<30, 7)} {
			for _, l := range [][]api.Op{nil, {}, {{}}, make([]api.Op, 20), wrongOnes(at(1<<30, 7)), ofEachKind(at(1<<30, 8)), ofEachKind(floor)} {
				b := from(t, base, floor, l)
				if len(b.log.Ops()) != 0 || b.log.Floor() != floor {
					t.Fatal(b.log)
				}
				wantGraph(t, "the base", b.log.Base(), base)
				wantGraph(t, "the graph", b.log.Graph(), base)
			}
		}
	}
}

func TestFromInAnyOrder(t *testing.T) {
	l := row()
	wantRow(t, "rising", begun(t, l...).log)
	wantRow(t, "falling", begun(t, reversed(l)...).log)
	wantRow(t, "twice", begun(t, slices.Concat(l, reversed(l), l)...).log)
	r := rand.New(rand.NewPCG(14, 1))
	for range 20 {
		in := append(shuffled(r, l), shuffled(r, l)[:r.IntN(len(l))]...)
		for range 5 {
			in = slices.Insert(in, r.IntN(len(in)+1), some(r, wrongOnes(some(r, l).Stamp)), some(r, ofEachKind(some(r, wrongStamps()))))
		}
		b := begun(t, in...)
		wantRow(t, "in some order", b.log)
		wantOps(t, "in some order", b.log.Ops(), l)
	}
	orders([]api.Op{l[0], l[1], l[3], l[5], l[6]}, func(in []api.Op) {
		wantLists(t, "in some order", begun(t, in...).log, []api.Inode{{Id: id(1), Kind: api.Dir, Links: 1}, {Id: id(2), Kind: api.File, Links: 1, Data: "\x00abc"}}, []api.Entry{{Name: "d", Ino: id(1)}, {Name: "g", Ino: id(2)}})
	})
}

func TestFromOfOneStampTheFirst(t *testing.T) {
	same := ofEachKind(at(5, 5))
	low, high := marked(at(5, 4), 1), marked(at(5, 6), 2)
	for _, first := range same {
		for _, second := range same {
			wantOps(t, "the first one", begun(t, first, second, first).log.Ops(), []api.Op{first})
			wantOps(t, "among others", begun(t, high, first, second, low).log.Ops(), []api.Op{low, first, high})
		}
		for _, wrong := range wrongOnes(at(5, 5))[:9] {
			wantOps(t, "what may not be ahead of it", begun(t, wrong, high, first, wrong).log.Ops(), []api.Op{first, high})
		}
	}
}

func TestFromAboveTheFloor(t *testing.T) {
	l := row()
	for k, o := range l {
		for _, x := range []struct {
			floor api.Stamp
			gone  int
		}{{o.Stamp, k + 1}, {at(o.Stamp.Time, 7), k + 1}, {at(o.Stamp.Time-1, 7), k}} {
			if !maybe(x.floor) || k >= 8 && k < 11 && x.floor != o.Stamp {
				continue // the root's time, and three of the time 9
			}
			base := behind(graph.New(), l[:x.gone]...)
			for _, in := range [][]api.Op{l, reversed(l), l[x.gone:]} {
				b := from(t, base, x.floor, in)
				wantOps(t, "those above", b.log.Ops(), l[x.gone:])
				wantGraph(t, "the base", b.log.Base(), base)
				wantRow(t, "the graph", b.log)
			}
		}
	}
	// Of a base that has nothing of what is below the floor, that isn't done.
	b := from(t, graph.New(), id(1), l[:2])
	wantOps(t, "those above", b.log.Ops(), l[1:2])
	wantLists(t, "nothing", b.log, nil, nil)
}

func TestFromSharesNothing(t *testing.T) {
	base, l := behind(graph.New(), row()[:6]...), row()[6:]
	was := base.Copy()
	one, two := From(base, id(6), l), From(base, id(6), l)
	want := plainFrom(base, id(6), l)
	one.Add(marked(at(6, 1), 7))
	one.Compact(id(20))
	wantGraph(t, "the base, a log turned", base, was)
	wantOps(t, "the list, a log turned", l, row()[6:])
	wantLog(t, "another log", two, want)
	ruin(base)
	spoil(l)
	wantLog(t, "another log, what it was made of ruined", two, want)
	// Of the base and the graph of a log another one can be made.
	three := From(two.Base(), two.Floor(), two.Ops())
	wantLog(t, "of what a log tells", three, want)
	three.Compact(id(30))
	ruin(three.all)
	wantLog(t, "that one ruined", two, want)
}

func TestFromABaseThatHasWhatComes(t *testing.T) {
	// What was done may come once more, above the floor: it tells errors, or does the same.
	l := row()
	base := behind(graph.New(), l...)
	for _, floor := range []api.Stamp{id(0), id(5), id(13)} {
		b := from(t, base, floor, l)
		for _, o := range l {
			b.add(o)
		}
		b.compact(id(7))
		b.compact(id(40))
	}
}

// loose is a graph that isn't fine: what isn't tied, trees that hang on nothing, and data and modes that may not be.
func loose() *graph.Graph {
	g := graph.New()
	for k := range 5 {
		g.Make(id(k+1), 1+k%3)
		g.Set(id(k+1), -5, strings.Repeat("x", 40*k))
	}
	g.Tie(api.Entry{At: id(1), Name: "a", Ino: id(4)})
	g.Tie(api.Entry{Name: "b", Ino: id(2)})
	return g
}

// TestFromABaseThatIsNotFine: what undo.Back promises is of graphs that are fine; the graph is what the operations make all the same.
func TestFromABaseThatIsNotFine(t *testing.T) {
	r := rand.New(rand.NewPCG(14, 2))
	for _, base := range []*graph.Graph{{}, loose()} {
		for range 30 {
			var l []api.Op
			for range 12 {
				l = append(l, drawn(r, loose(), at(int64(1+r.IntN(9)), r.IntN(8)), []string{"a", "b", "c"}))
			}
			b := from(t, base, id(r.IntN(3)), l)
			for _, o := range shuffled(r, l) {
				b.add(o)
			}
			b.compact(id(r.IntN(9)))
		}
	}
}

// P14.1: Add.

func TestAddToNothing(t *testing.T) {
	for _, s := range []api.Stamp{at(1, 0), at(1, 7), at(5, 3), at(1<<30, 0), at(1<<30, 7)} {
		for _, o := range ofEachKind(s) {
			c := begun(t).wantAdd(o, true)
			wantOps(t, "one", c.log.Ops(), []api.Op{o})
			wantGraph(t, "one", c.log.Graph(), behind(graph.New(), o))
			wantGraph(t, "the base", c.log.Base(), graph.New())
			c.wantAdd(o, false)
		}
	}
}

func TestAddAtEachPlace(t *testing.T) {
	l := markedAt(10, 20, 30)
	b := begun(t, l...)
	for _, x := range []struct {
		s     api.Stamp
		place int
	}{
		{at(1, 0), 0}, {at(9, 7), 0}, {at(10, 1), 1}, {at(10, 7), 1}, {at(11, 0), 1}, {at(19, 7), 1}, {at(20, 1), 2}, {at(29, 7), 2}, {at(30, 1), 3}, {at(31, 0), 3}, {at(1<<30, 7), 3},
	} {
		for _, o := range append(ofEachKind(x.s), marked(x.s, 9)) {
			c := b.wantAdd(o, true)
			wantOps(t, "at its place", c.log.Ops(), slices.Insert(slices.Clone(l), x.place, o))
		}
		// The root's mode is told by the last one.
		mode := 3
		if x.place == 3 {
			mode = 9
		}
		if root, _ := b.wantAdd(marked(x.s, 9), true).log.Graph().Get(id(0)); root.Mode != mode {
			t.Error(x, root)
		}
	}
	// Of the same time by replica.
	b = begun(t, marked(at(10, 3), 1), marked(at(10, 5), 2))
	for rep, place := range []int{0, 0, 0, -1, 1, -1, 2, 2} {
		o := marked(at(10, rep), 9)
		c := b.wantAdd(o, place >= 0)
		if place >= 0 {
			wantOps(t, "at its place", c.log.Ops(), slices.Insert(slices.Clone(b.log.Ops()), place, o))
		}
	}
	// Each of a row into all the others.
	all := row()
	for k, o := range all {
		c := begun(t, slices.Delete(slices.Clone(all), k, k+1)...).wantAdd(o, true)
		wantRow(t, "with the one that was missing", c.log)
		begun(t, all[:k]...).wantAdd(o, true)
		begun(t, all[k+1:]...).wantAdd(o, true)
	}
}

func TestAddOfAStampThatIsThere(t *testing.T) {
	b := begun(t, row()...)
	for _, there := range row() {
		b.wantAdd(there, false)
		for _, o := range append(ofEachKind(there.Stamp), wrongOnes(there.Stamp)...) {
			b.wantAdd(o, false)
		}
	}
	wantRow(t, "as it was", b.log)
}

func TestAddBelowTheFloor(t *testing.T) {
	for _, floor := range []api.Stamp{id(4), at(4, 3), at(4, 7), at(1<<30, 7)} {
		b := from(t, behind(graph.New(), row()[:3]...), floor, row()[11:])
		for _, s := range []api.Stamp{at(1, 0), id(2), at(3, 7), id(4), at(4, 2), at(4, 3), floor} {
			if above(s, floor) {
				continue
			}
			for _, o := range append(ofEachKind(s), wrongOnes(s)...) {
				b.wantAdd(o, false)
			}
		}
		for _, s := range []api.Stamp{at(floor.Time, floor.Rep+1), at(floor.Time+1, 0)} {
			for _, o := range ofEachKind(s) {
				b.wantAdd(o, maybe(s))
			}
		}
	}
}

func TestAddOfWhatMayNotBe(t *testing.T) {
	for _, b := range []both{begun(t), begun(t, row()...), from(t, behind(graph.New(), row()[:4]...), id(4), row())} {
		for _, s := range []api.Stamp{at(1, 1), at(5, 2), id(6), id(40), at(1<<30, 7)} {
			for _, o := range wrongOnes(s) {
				b.wantAdd(o, false)
			}
		}
		for _, s := range append(wrongStamps(), id(0)) {
			for _, o := range ofEachKind(s) {
				b.wantAdd(o, false)
			}
		}
	}
}

// wantErr wants that the operation of a stamp is told that error, where it stands.
func wantErr(t testing.TB, l *Log, s api.Stamp, want api.Errno) {
	t.Helper()
	k := slices.IndexFunc(l.ops, func(o api.Op) bool { return o.Stamp == s })
	if k < 0 || len(l.records) != len(l.ops) || l.records[k].Err != want {
		t.Fatalf("%v: %d, want the error %d; %v", s, k, want, l.records)
	}
}

// TestAddTurnsErrors: each row comes one by one; what is told of which operation, then.
func TestAddTurnsErrors(t *testing.T) {
	type told struct {
		s api.Stamp
		e api.Errno
	}
	for k, x := range []struct {
		before []api.Op
		comes  api.Op
		was    []told
		is     []told
	}{
		// It tells an error where it stands: nothing else turns.
		{[]api.Op{mkdir(id(3), id(0), "a")}, create(id(5), id(0), "a"), []told{{id(3), api.OK}}, []told{{id(3), api.OK}, {id(5), api.ErrThere}}},
		{[]api.Op{mkdir(id(3), id(0), "a")}, rmdir(id(2), id(0), id(3), "a"), []told{{id(3), api.OK}}, []told{{id(2), api.ErrNone}, {id(3), api.OK}}},
		// It turns an error into none: what was missing is there.
		{[]api.Op{write(id(6), id(5), 0, "x")}, create(id(5), id(0), "a"), []told{{id(6), api.ErrNone}}, []told{{id(5), api.OK}, {id(6), api.OK}}},
		{[]api.Op{create(id(6), id(5), "b"), mkdir(id(7), id(6), "c")}, mkdir(id(5), id(0), "a"), []told{{id(6), api.ErrNone}, {id(7), api.ErrNone}}, []told{{id(5), api.OK}, {id(6), api.OK}, {id(7), api.ErrFile}}},
		{[]api.Op{create(id(3), id(0), "a"), create(id(5), id(0), "a")}, unlink(id(4), id(0), id(3), "a"), []told{{id(3), api.OK}, {id(5), api.ErrThere}}, []told{{id(3), api.OK}, {id(4), api.OK}, {id(5), api.OK}}},
		{[]api.Op{mkdir(id(1), id(0), "a"), create(id(2), id(1), "b"), rmdir(id(4), id(0), id(1), "a")}, unlink(id(3), id(1), id(2), "b"), []told{{id(4), api.ErrFull}}, []told{{id(3), api.OK}, {id(4), api.OK}}},
		// And none into an error.
		{[]api.Op{create(id(5), id(0), "a"), write(id(6), id(5), 0, "x")}, mkdir(id(4), id(0), "a"), []told{{id(5), api.OK}, {id(6), api.OK}}, []told{{id(4), api.OK}, {id(5), api.ErrThere}, {id(6), api.ErrNone}}},
		{[]api.Op{create(id(3), id(0), "a"), write(id(6), id(3), 0, "x")}, unlink(id(4), id(0), id(3), "a"), []told{{id(6), api.OK}}, []told{{id(4), api.OK}, {id(6), api.ErrNone}}},
		{[]api.Op{mkdir(id(1), id(0), "a"), rmdir(id(3), id(0), id(1), "a")}, create(id(2), id(1), "b"), []told{{id(3), api.OK}}, []told{{id(2), api.OK}, {id(3), api.ErrFull}}},
		{[]api.Op{mkdir(id(1), id(0), "a"), mkdir(id(2), id(0), "b"), rename(id(5), id(0), id(1), "a", id(2), "a")}, rename(id(4), id(0), id(2), "b", id(1), "b"), []told{{id(5), api.OK}}, []told{{id(4), api.OK}, {id(5), api.ErrInval}}},
		// One error into another one, and two at once, each the other way round.
		{[]api.Op{create(id(5), id(3), "b")}, create(id(3), id(0), "a"), []told{{id(5), api.ErrNone}}, []told{{id(3), api.OK}, {id(5), api.ErrFile}}},
		{[]api.Op{mkdir(id(3), id(0), "a"), mkdir(id(5), id(0), "b"), create(id(6), id(0), "a")}, rename(id(4), id(0), id(3), "a", id(0), "b"), []told{{id(5), api.OK}, {id(6), api.ErrThere}}, []told{{id(4), api.OK}, {id(5), api.ErrThere}, {id(6), api.OK}}},
	} {
		b := begun(t, x.before...)
		for _, w := range x.was {
			wantErr(t, b.log, w.s, w.e)
		}
		c := b.wantAdd(x.comes, true)
		for _, w := range x.is {
			wantErr(t, c.log, w.s, w.e)
		}
		// In whatever order they come.
		orders(append(slices.Clone(x.before), x.comes), func(l []api.Op) {
			d := begun(t)
			for _, o := range l {
				d.add(o)
			}
			for _, w := range x.is {
				wantErr(t, d.log, w.s, w.e)
			}
			wantGraph(t, strconv.Itoa(k)+" in some order", d.log.Graph(), c.log.Graph())
		})
	}
}

func TestAddMoreThanThereIsRoomFor(t *testing.T) {
	// 39 inodes beside the root: those with the lowest stamps are there, whichever come first.
	var l []api.Op
	for k := range 60 {
		l = append(l, create(at(int64(1+k/4), k%4*2), id(0), strconv.Itoa(k)))
	}
	gone := unlink(at(10, 7), id(0), l[3].Stamp, "3")
	r := rand.New(rand.NewPCG(14, 3))
	for _, in := range [][]api.Op{l, reversed(l), shuffled(r, l), shuffled(r, l)} {
		b := begun(t)
		for k, o := range in {
			if !b.log.Add(o) || !b.plain.add(o) || k%9 == 0 && len(b.log.Graph().Inodes()) != min(40, k+2) {
				t.Fatal(k, o)
			}
		}
		b.check("all of them")
		if n := b.log.Graph().Inodes(); len(n) != 40 || n[39].Id != l[38].Stamp {
			t.Fatal(n)
		}
		// One goes between, and the next one has room: not the one right behind the last one, which is below it.
		b.add(gone)
		if n := b.log.Graph().Inodes(); len(n) != 40 || n[38].Id != l[38].Stamp || n[39].Id != l[40].Stamp {
			t.Fatal(n)
		}
		b.compact(at(10, 5))
		b.compact(at(13, 0))
	}
	// Six links of a file.
	b := begun(t)
	for k := 9; k > 0; k-- {
		b.add(link(id(1+k), id(0), id(1), strconv.Itoa(k)))
	}
	b.add(create(id(1), id(0), "0"))
	if e := b.log.Graph().Entries(); len(e) != 6 || e[5].Name != "5" {
		t.Fatal(e)
	}
	b.add(unlink(at(4, 1), id(0), id(1), "2"))
	if e := b.log.Graph().Entries(); len(e) != 6 || e[5].Name != "6" {
		t.Fatal(e)
	}
}

func TestAddOfAllOrders(t *testing.T) {
	l := []api.Op{mkdir(at(1, 1), id(0), "a"), create(at(1, 2), id(0), "a"), create(at(2, 0), at(1, 1), "b"), rename(at(2, 1), at(1, 1), at(2, 0), "b", id(0), "a"), rename(at(2, 2), id(0), at(1, 1), "a", id(0), "c"), write(at(3, 0), at(2, 0), 2, "xy")}
	want := fold.Of(l)
	orders(l, func(in []api.Op) {
		log := New()
		for _, o := range in {
			if !log.Add(o) {
				t.Fatal(o)
			}
		}
		wantGraph(t, "in some order", log.Graph(), want)
		wantOps(t, "in some order", log.Ops(), l)
	})
}

func TestAddWhatIsTurnedLater(t *testing.T) {
	// An operation is a value: what is done to the one that was handed in turns nothing.
	o := mkdir(id(1), id(0), "a")
	log := New()
	log.Add(o)
	o.Name, o.Kind = "b", api.Create
	wantOps(t, "as it came", log.Ops(), []api.Op{mkdir(id(1), id(0), "a")})
	log.Add(marked(at(0, 1), 3))
	log.Add(mkdir(at(1, 1), id(1), "c"))
	wantLists(t, "as it came", log, []api.Inode{{Id: id(1), Kind: api.Dir, Links: 1}, {Id: at(1, 1), Kind: api.Dir, Links: 1}}, []api.Entry{{Name: "a", Ino: id(1)}, {At: id(1), Name: "c", Ino: at(1, 1)}})
}

// P14.2: Compact.

func TestCompactOfWhatMayNotBe(t *testing.T) {
	for _, b := range []both{begun(t), begun(t, row()...), from(t, behind(graph.New(), row()[:4]...), id(4), row())} {
		for _, s := range wrongStamps() {
			c := b.wantCompact(s, 0)
			wantApart(t, "nothing compacted", c.log, b.plain)
		}
	}
}

func TestCompactToTheFloor(t *testing.T) {
	for _, floor := range []api.Stamp{id(0), id(4), at(9, 1), at(1<<30, 7)} {
		b := from(t, behind(graph.New(), row()[:2]...), floor, row())
		for _, s := range []api.Stamp{id(0), at(1, 0), id(2), id(4), at(9, 1), floor, at(floor.Time-1, 7), at(floor.Time, floor.Rep-1)} {
			if !above(s, floor) {
				wantApart(t, "nothing compacted", b.wantCompact(s, 0).log, b.plain)
			}
		}
	}
}

func TestCompactToEachStamp(t *testing.T) {
	l := row()
	b := begun(t, l...)
	n := 0
	for time := 1; time <= 15; time++ {
		for rep := range 8 {
			s := at(int64(time), rep)
			if n < len(l) && l[n].Stamp == s {
				n++
			}
			c := b.wantCompact(s, n)
			wantRow(t, "compacted", c.log)
			if c.log.Floor() != s {
				t.Fatal(c.log.Floor(), s)
			}
			wantGraph(t, "the base", c.log.Base(), behind(graph.New(), l[:n]...))
			wantOps(t, "those that stay", c.log.Ops(), l[n:])
			wantApart(t, "compacted", c.log, c.plain)
			// Twice the same, and lower.
			c.wantCompact(s, 0)
			c.wantCompact(at(s.Time, rep-1), 0)
			c.wantCompact(at(s.Time-1, 7), 0)
			// Higher.
			c.wantCompact(at(1<<30, 7), len(l)-n)
			c.wantCompact(id(13), len(l)-n)
		}
	}
	if n != len(l) {
		t.Fatal(n)
	}
	c := b.wantCompact(at(1<<30, 7), len(l))
	wantRow(t, "all", c.log)
	c.wantCompact(at(1<<30, 7), 0)
	c.wantAdd(marked(at(1<<30, 7), 1), false)
}

func TestCompactWithoutOperations(t *testing.T) {
	b := begun(t)
	for _, s := range []api.Stamp{at(1, 0), at(1, 1), at(5, 0), at(1<<30, 6), at(1<<30, 7)} {
		b = b.wantCompact(s, 0)
		if b.log.Floor() != s || !b.log.Has(s) || b.log.Has(at(s.Time+1, 0)) {
			t.Fatal(b.log)
		}
		b.wantAdd(marked(s, 3), false)
	}
	wantGraph(t, "the root", b.log.Base(), graph.New())
	// Between two, where none is.
	b = begun(t, markedAt(10, 20)...)
	b = b.wantCompact(id(5), 0).wantCompact(at(9, 7), 0)
	b = b.wantCompact(id(15), 1).wantCompact(at(19, 7), 0)
	b.wantCompact(id(20), 1).wantCompact(id(25), 0)
}

func TestCompactStepByStep(t *testing.T) {
	l := row()
	for _, steps := range [][]int{{1, 2, 3, 4, 5, 6, 7, 8, 9, 10, 11, 12, 13}, {3, 6, 9, 12, 15}, {7, 8}, {8, 7, 9, 9, 12, 2}, {40}} {
		b := begun(t, l...)
		gone := 0
		for _, time := range steps {
			gone += b.compact(id(time))
			wantOps(t, "those that stay", b.log.Ops(), l[gone:])
			wantGraph(t, "the base", b.log.Base(), behind(graph.New(), l[:gone]...))
			wantRow(t, "compacted", b.log)
		}
	}
}

func TestAddBehindCompact(t *testing.T) {
	l := row()
	for gone := range len(l) {
		for missing := range len(l) {
			// One comes late: below the floor it is refused, above it it is as if it had been there.
			b := begun(t, slices.Delete(slices.Clone(l), missing, missing+1)...)
			floor := l[gone].Stamp
			b.compact(floor)
			if b.add(l[missing]) != (missing > gone) {
				t.Fatal(gone, missing)
			}
			if missing > gone {
				wantRow(t, "behind Compact", b.log)
			}
			b.add(marked(at(floor.Time, floor.Rep+1), 77))
			b.compact(l[len(l)-1].Stamp)
			b.add(create(id(20), id(0), "z"))
		}
	}
}

func TestCompactOfWhatTellsErrors(t *testing.T) {
	// What can't be done is gone with the others, and counts.
	l := append(markedAt(1), mkdir(id(2), id(7), "a"), rmdir(id(3), id(0), id(0), "a"), unlink(id(4), id(0), id(9), "a"))
	b := begun(t, l...)
	wantGraph(t, "the base", b.wantCompact(id(4), 4).log.Base(), behind(graph.New(), l[0]))
	b.wantCompact(id(3), 3)
	c := b.wantCompact(id(1), 1).wantCompact(id(3), 2).wantCompact(at(9, 0), 1)
	// What would have made it possible comes too late.
	c.wantAdd(mkdir(at(1, 4), id(0), "a"), false)
	c.wantAdd(mkdir(id(9), id(0), "a"), false)
}

// P14.2: Graph, Base and Ops are copies.

func TestAnswersAreCopies(t *testing.T) {
	b := from(t, behind(graph.New(), row()[:6]...), id(6), row())
	was := b.plain.copied()
	g, base, l := b.log.Graph(), b.log.Base(), b.log.Ops()
	other, otherBase, otherOps := b.log.Graph(), b.log.Base(), b.log.Ops()
	ruin(g)
	wantLog(t, "the graph ruined", b.log, was)
	ruin(base)
	wantLog(t, "the base ruined", b.log, was)
	spoil(l)
	wantLog(t, "the list spoiled", b.log, was)
	l = append(b.log.Ops(), api.Op{})
	spoil(l)
	wantLog(t, "what is behind the list's end spoiled", b.log, was)
	wantGraph(t, "another graph", other, was.graph())
	wantGraph(t, "another base", otherBase, was.base)
	wantOps(t, "another list", otherOps, was.ops)
	// What was told stays as it is when the log goes on.
	b.add(rename(id(14), id(0), id(9), "d", id(0), "e"))
	b.add(marked(at(6, 1), 7))
	b.compact(id(11))
	wantGraph(t, "the graph, the log gone on", other, was.graph())
	wantGraph(t, "the base, the log gone on", otherBase, was.base)
	wantOps(t, "the list, the log gone on", otherOps, was.ops)
	// Without operations the base and the graph are two.
	empty := New()
	ruin(empty.Graph())
	ruin(empty.Base())
	wantLog(t, "a new one", empty, plainFrom(graph.New(), id(0), nil))
	empty.Add(marked(id(1), 5))
	wantGraph(t, "the base of a new one", empty.Base(), graph.New())
}

// P14.2: Has.

func TestHas(t *testing.T) {
	l := From(graph.New(), at(4, 2), []api.Op{marked(at(4, 5), 1), marked(at(7, 0), 2), marked(at(9, 7), 3), marked(at(3, 0), 4)})
	for _, x := range []struct {
		s    api.Stamp
		want bool
	}{
		{at(0, 0), true}, {at(1, 0), true}, {at(3, 0), true}, {at(3, 7), true}, {at(4, 0), true}, {at(4, 1), true}, {at(4, 2), true},
		{at(4, 3), false}, {at(4, 4), false}, {at(4, 5), true}, {at(4, 6), false}, {at(4, 7), false}, {at(5, 0), false}, {at(5, 5), false}, {at(6, 7), false}, {at(7, 0), true}, {at(7, 1), false}, {at(7, 7), false}, {at(8, 0), false}, {at(9, 0), false}, {at(9, 6), false}, {at(9, 7), true}, {at(10, 0), false}, {at(10, 7), false}, {at(1<<30, 0), false}, {at(1<<30, 7), false},
		// Those that may not be are in the same order.
		{at(math.MinInt64, math.MaxInt), true}, {at(-1, 0), true}, {at(0, -1), true}, {at(0, 3), true}, {at(3, 8), true}, {at(3, math.MaxInt), true}, {at(4, -1), true}, {at(4, math.MinInt), true}, {at(4, 8), false}, {at(4, math.MaxInt), false}, {at(7, -1), false}, {at(9, 8), false}, {at(math.MaxInt64, 0), false}, {at(math.MaxInt64, math.MinInt), false},
	} {
		if l.Has(x.s) != x.want {
			t.Error(x)
		}
	}
	// Behind Compact all up to it is there, whether it came or not.
	l.Compact(at(7, 3))
	for _, x := range []struct {
		s    api.Stamp
		want bool
	}{{at(4, 3), true}, {at(5, 5), true}, {at(7, 0), true}, {at(7, 1), true}, {at(7, 3), true}, {at(7, 4), false}, {at(9, 6), false}, {at(9, 7), true}, {at(9, 8), false}} {
		if l.Has(x.s) != x.want {
			t.Error("behind Compact", x)
		}
	}
}

func TestHasOfEachLength(t *testing.T) {
	log := New()
	for n := range 70 {
		for k := range n {
			if !log.Has(id(2*k+2)) || log.Has(id(2*k+3)) || log.Has(at(int64(2*k+2), 1)) || log.Has(at(int64(2*k+2), -1)) {
				t.Fatal(n, k)
			}
		}
		if log.Has(id(1)) || log.Has(id(2*n+2)) {
			t.Fatal(n)
		}
		log.Add(marked(id(2*n+2), n))
	}
}

// P14.2: Copy.

func TestCopiesGoOnApart(t *testing.T) {
	l := row()
	for k := range len(l) + 1 {
		b := begun(t, l[:k]...)
		b.compact(id(3))
		c := b.copied()
		wantApart(t, "alike", c.log, b.plain)
		// The one turns, the other one doesn't.
		b.add(marked(at(3, 1), 8))
		b.add(create(id(30), id(0), "b"))
		c.check("the log gone on")
		c.add(mkdir(id(30), id(0), "c"))
		c.add(marked(at(30, 1), 9))
		b.check("the copy gone on")
		c.compact(id(8))
		b.check("the copy compacted")
		b.compact(id(40))
		c.check("the log compacted")
		for _, o := range l {
			c.add(o)
			b.add(o)
		}
		b.check("both gone on")
		c.check("both gone on")
		d := c.copied().copied()
		d.add(rename(at(9, 5), id(0), id(9), "d", id(0), "f"))
		c.check("a copy of a copy gone on")
	}
}

func TestCopiesShareNoRoom(t *testing.T) {
	// Each appends behind the end of what it has; behind Compact, too.
	for n := range 20 {
		log, want := New(), plainFrom(graph.New(), id(0), nil)
		for k := range n {
			log.Add(marked(id(10+k), k))
			want.add(marked(id(10+k), k))
		}
		for _, floor := range []int{0, 10, 15} {
			log.Compact(id(floor))
			want.compact(id(floor))
			one, two := log.Copy(), log.Copy()
			wantOne, wantTwo := want.copied(), want.copied()
			one.Add(create(id(50), id(0), "one"))
			two.Add(create(id(50), id(0), "two"))
			log.Add(create(id(50), id(0), "log"))
			one.Add(create(at(15, 1), id(0), "a"))
			two.Add(create(at(15, 1), id(0), "b"))
			wantOne.add(create(id(50), id(0), "one"))
			wantTwo.add(create(id(50), id(0), "two"))
			want.add(create(id(50), id(0), "log"))
			wantOne.add(create(at(15, 1), id(0), "a"))
			wantTwo.add(create(at(15, 1), id(0), "b"))
			wantLog(t, "one", one, wantOne)
			wantLog(t, "two", two, wantTwo)
			wantLog(t, "the log", log, want)
		}
	}
}

// P14.2: a log that is nil.

func TestNil(t *testing.T) {
	var l *Log
	for _, s := range append(wrongStamps(), id(0), at(1, 0), at(5, 3), at(1<<30, 7)) {
		for _, o := range append(ofEachKind(s), wrongOnes(s)...) {
			if l.Add(o) {
				t.Error("Add", o)
			}
		}
		if l.Has(s) || l.Compact(s) != 0 {
			t.Error("Has or Compact", s)
		}
	}
	if l.Graph() != nil || l.Base() != nil || l.Ops() != nil || l.Floor() != id(0) || l.Copy() != nil {
		t.Error("something")
	}
}

// TestNotMade: of a log that New and From didn't make nothing is promised but that each call ends, and doesn't panic.
func TestNotMade(t *testing.T) {
	for _, l := range []*Log{{}, new(Log).Copy()} {
		for _, o := range slices.Concat(row(), reversed(row()), wrongOnes(id(3))) {
			l.Add(o)
		}
		l.Has(id(3))
		l.Compact(id(5))
		l.Add(marked(id(7), 4))
		c := l.Copy()
		if c.Graph() != nil || c.Base() != nil || c.Floor() != l.Floor() || !slices.Equal(c.Ops(), l.Ops()) {
			t.Error(c)
		}
		c.Compact(at(1<<30, 7))
	}
}

// P14.3: the theorem.

// drawn is an operation of things that a graph has.
func drawn(r *rand.Rand, g *graph.Graph, s api.Stamp, names []string) api.Op {
	inodes, entries := g.Inodes(), g.Entries()
	if len(inodes) == 0 {
		inodes = []api.Inode{{}}
	}
	dirs := slices.DeleteFunc(slices.Clone(inodes), func(i api.Inode) bool { return i.Kind == api.File || i.Kind == api.Sym && r.IntN(9) > 0 })
	o := api.Op{Stamp: s, Kind: 1 + r.IntN(10), At: some(r, dirs).Id, Ino: some(r, inodes).Id, To: some(r, dirs).Id, Name: some(r, names), New: some(r, names), Off: r.IntN(40), Data: strings.Repeat("x", 1+r.IntN(24))}
	if len(entries) > 0 && api.Unlink <= o.Kind && o.Kind <= api.Rename && r.IntN(8) > 0 {
		e := some(r, entries)
		o.At, o.Name, o.Ino = e.At, e.Name, e.Ino
	}
	if len(entries) > 0 && (o.Kind == api.Write || o.Kind == api.Trunc) {
		o.Ino = some(r, entries).Ino
	}
	return fields(o)
}

// history is what some replicas issue that tell each other only now and then what they know: in each one's graph all of it could be, in the others' maybe not.
func history(r *rand.Rand, reps, steps int, names []string) []api.Op {
	known := make([]*plain, reps)
	for rep := range known {
		known[rep] = plainFrom(graph.New(), id(0), nil)
	}
	var all []api.Op
	for range steps {
		p := some(r, known)
		rep := slices.Index(known, p)
		if r.IntN(6) == 0 {
			for _, o := range some(r, known).ops {
				p.add(o)
			}
		}
		time := int64(0)
		if len(p.ops) > 0 {
			time = p.ops[len(p.ops)-1].Stamp.Time
		}
		o := drawn(r, p.graph(), at(time+1, rep), names)
		p.add(o)
		all = append(all, o)
	}
	return all
}

// histories are some of them, long and short, of one replica and of several; of each kind some can be done, and some can't.
func histories(t testing.TB, seed uint64) [][]api.Op {
	t.Helper()
	r := rand.New(rand.NewPCG(14, seed))
	done, undone := map[int]int{}, map[int]int{}
	var all [][]api.Op
	for k := range 16 {
		l := history(r, 1+k%5, 20+8*(k%6), []string{"a", "b", "c", "d", "e"}[:2+k%4])
		g := graph.New()
		for _, o := range fold.Sort(l) {
			if apply.Do(g, o) == api.OK {
				done[o.Kind]++
			} else {
				undone[o.Kind]++
			}
		}
		all = append(all, l)
	}
	for kind := api.Mkdir; kind <= api.Setattr; kind++ {
		if done[kind] < 3 || undone[kind] < 2 {
			t.Fatal(kind, done, undone)
		}
	}
	return all
}

func TestWhateverComesWhen(t *testing.T) {
	r := rand.New(rand.NewPCG(14, 4))
	for _, l := range histories(t, 20) {
		want := fold.Of(l)
		for k := range 3 {
			b := begun(t)
			// Each at least once, some more often, some that may not be between.
			in := shuffled(r, slices.Concat(l, l[:r.IntN(len(l))], wrongOnes(some(r, l).Stamp)))
			for _, o := range in {
				if k > 0 {
					b.log.Add(o)
					b.plain.add(o)
					continue
				}
				b.add(o)
			}
			b.check("in some order")
			wantGraph(t, "all that ever came", b.log.Graph(), want)
			wantOps(t, "all that ever came", b.log.Ops(), fold.Sort(l))
			wantFine(t, b.log.Graph())
		}
	}
}

// justBelow is the highest stamp below another one that isn't the root's.
func justBelow(s api.Stamp) api.Stamp {
	if s.Rep > 0 {
		return at(s.Time, s.Rep-1)
	}
	return at(s.Time-1, 7)
}

// TestCompactingInBetween: as long as nothing comes too late, the graph is what all make that ever came.
func TestCompactingInBetween(t *testing.T) {
	r := rand.New(rand.NewPCG(14, 5))
	for _, l := range histories(t, 21) {
		want, rising := fold.Of(l), fold.Sort(l)
		for range 3 {
			// What waits comes in any order, and a floor is below all that waits.
			waits, b, gone := shuffled(r, l), begun(t), 0
			var came []api.Op
			for len(waits) > 0 {
				o := waits[0]
				waits = waits[1:]
				came = append(came, o)
				if !b.add(o) {
					t.Fatal(o)
				}
				if r.IntN(5) > 0 {
					continue
				}
				low := at(1<<30, 7)
				for _, o := range waits {
					if above(low, o.Stamp) {
						low = o.Stamp
					}
				}
				gone += b.compact(justBelow(low))
				wantGraph(t, "all that came", b.log.Graph(), fold.Of(came))
				if gone+len(b.log.Ops()) != len(came) {
					t.Fatal(gone, len(came))
				}
			}
			wantGraph(t, "all that ever came", b.log.Graph(), want)
			gone += b.compact(at(1<<30, 7))
			wantGraph(t, "all that ever came", b.log.Base(), want)
			if gone != len(rising) {
				t.Fatal(gone)
			}
			wantFine(t, b.log.Base())
		}
	}
}

// TestWhatComesTooLate: what isn't above the floor is refused, and the graph is what all the others make.
func TestWhatComesTooLate(t *testing.T) {
	r := rand.New(rand.NewPCG(14, 6))
	late := 0
	for _, l := range histories(t, 22) {
		b := begun(t)
		var came []api.Op
		for _, o := range shuffled(r, l) {
			if b.add(o) {
				came = append(came, o)
			} else {
				late++
			}
			if r.IntN(8) == 0 {
				s := some(r, l).Stamp
				b.compact(at(s.Time/2, s.Rep))
			}
			if r.IntN(8) == 0 && len(b.log.Ops()) > 3 {
				b.compact(b.log.Ops()[r.IntN(3)].Stamp)
			}
			wantGraph(t, "all that was taken", b.log.Graph(), fold.Of(came))
			wantFine(t, b.log.Graph())
		}
	}
	if late < 20 {
		t.Fatal(late)
	}
}

// TestAllRows: all rows of three operations out of a few that are in each other's way, each in all orders, on a base with what some stand behind.
func TestAllRows(t *testing.T) {
	base := behind(graph.New(), mkdir(id(1), id(0), "a"), mkdir(id(2), id(1), "b"), create(id(3), id(0), "f"))
	kinds := []api.Op{
		mkdir(id(0), id(0), "f"), create(id(0), id(2), "b"), {Kind: api.Symlink, Name: "b", Data: "a"}, link(id(0), id(2), id(3), "f"), unlink(id(0), id(0), id(3), "f"), rmdir(id(0), id(1), id(2), "b"),
		rename(id(0), id(0), id(1), "a", id(2), "a"), rename(id(0), id(1), id(2), "b", id(0), "b"), rename(id(0), id(0), id(3), "f", id(1), "b"), write(id(0), id(3), 1, "x"), {Kind: api.Trunc, Ino: id(3), Off: 1}, {Kind: api.Setattr, Ino: id(3), Off: 7},
	}
	stamps := []api.Stamp{at(5, 1), at(5, 2), at(6, 0)}
	for _, x := range kinds {
		for _, y := range kinds {
			for _, z := range kinds {
				l := []api.Op{x, y, z}
				for k, s := range stamps {
					l[k].Stamp = s
				}
				want := behind(base, l...)
				orders(l, func(in []api.Op) {
					log := From(base, id(4), in[:2])
					log.Add(in[2])
					wantGraph(t, "in some order", log.Graph(), want)
				})
				log := From(base, id(4), reversed(l))
				for k, s := range stamps {
					if log.Compact(s) != 1 {
						t.Fatal(s)
					}
					wantGraph(t, "compacted", log.Graph(), want)
					wantGraph(t, "the base", log.Base(), behind(base, l[:k+1]...))
				}
			}
		}
	}
}

// TestAllDeeds: all rows of four deeds out of a few, with which the floor rises, and what comes is in time, or too late.
func TestAllDeeds(t *testing.T) {
	deeds := []func(b both) both{
		func(b both) both { b.add(mkdir(id(2), id(0), "a")); return b },
		func(b both) both { b.add(create(id(4), id(2), "b")); return b },
		func(b both) both { b.add(rename(id(6), id(2), id(4), "b", id(0), "a")); return b },
		func(b both) both { b.add(create(id(1), id(0), "a")); return b },
		func(b both) both { b.add(unlink(id(3), id(0), id(1), "a")); return b },
		func(b both) both { b.add(api.Op{Stamp: id(5), Kind: 99}); return b },
		func(b both) both { b.compact(id(2)); return b },
		func(b both) both { b.compact(id(3)); return b },
		func(b both) both { b.compact(id(6)); return b },
		func(b both) both { return b.copied() },
	}
	var down func(b both, left int)
	down = func(b both, left int) {
		if left == 0 {
			return
		}
		for _, deed := range deeds {
			c := deed(b.copied())
			down(c, left-1)
		}
	}
	b := begun(t)
	down(b, 4)
	wantApart(t, "the one with which all began", b.log, plainFrom(graph.New(), id(0), nil))
}

// TestWhoeverHeardTheSame: logs that heard the same are alike, however each came to it.
func TestWhoeverHeardTheSame(t *testing.T) {
	r := rand.New(rand.NewPCG(14, 7))
	for _, l := range histories(t, 23) {
		one, two := New(), New()
		for _, o := range shuffled(r, l) {
			one.Add(o)
		}
		for _, o := range shuffled(r, append(l, l...)) {
			two.Add(o)
		}
		// Of one's middle a third one, which hears the rest.
		rising := fold.Sort(l)
		middle := rising[len(rising)/2].Stamp
		c := one.Copy()
		c.Compact(middle)
		three := From(c.Base(), c.Floor(), shuffled(r, l))
		wantOps(t, "two", two.Ops(), one.Ops())
		wantGraph(t, "two", two.Graph(), one.Graph())
		wantGraph(t, "three", three.Graph(), one.Graph())
		two.Compact(middle)
		wantOps(t, "three", three.Ops(), two.Ops())
		wantGraph(t, "the base of three", three.Base(), two.Base())
		wantGraph(t, "two compacted", two.Graph(), one.Graph())
	}
}

func TestALongLog(t *testing.T) {
	// In any order, told as one list; then a few that come late, at the end, and far below.
	const many = 2000
	var l []api.Op
	for k := range many {
		l = append(l, marked(at(int64(2+k/8*2), k%8), k))
	}
	r := rand.New(rand.NewPCG(14, 8))
	for _, in := range [][]api.Op{l, reversed(l), shuffled(r, l)} {
		log := From(graph.New(), id(0), in)
		wantOps(t, "all of them", log.Ops(), l)
		if root, _ := log.Graph().Get(id(0)); root.Mode != many-1 {
			t.Fatal(root)
		}
		for _, o := range []api.Op{marked(id(9000), 1), create(at(3, 3), id(0), "a"), write(at(101, 0), at(3, 3), 0, "x"), marked(id(9001), 2)} {
			if !log.Add(o) || log.Add(o) {
				t.Fatal(o)
			}
		}
		wantLists(t, "with those that come late", log, []api.Inode{{Id: at(3, 3), Kind: api.File, Links: 1, Data: "x"}}, []api.Entry{{Name: "a", Ino: at(3, 3)}})
		// Of the times 2 to 98 eight each, the first one of 100, and the one that came below.
		if n := log.Compact(id(100)); n != 49*8+1+1 {
			t.Fatal(n)
		}
		wantLists(t, "compacted", log, []api.Inode{{Id: at(3, 3), Kind: api.File, Links: 1, Data: "x"}}, []api.Entry{{Name: "a", Ino: at(3, 3)}})
	}
}

// R4: the answers hang on nothing that other logs were asked.

func TestLogsSideBySide(t *testing.T) {
	r := rand.New(rand.NewPCG(14, 9))
	all := histories(t, 24)[:6]
	var logs []both
	var alone []*Log
	for range all {
		logs, alone = append(logs, begun(t)), append(alone, New())
	}
	// Each goes on by turns with the others, and once more by itself.
	for step := range 60 {
		for _, k := range r.Perm(len(all)) {
			o := all[k][step*7%len(all[k])]
			logs[k].add(o)
			if step%20 == 19 {
				logs[k].compact(id(step / 8))
			}
		}
	}
	for k, l := range all {
		for step := range 60 {
			alone[k].Add(l[step*7%len(l)])
			if step%20 == 19 {
				alone[k].Compact(id(step / 8))
			}
		}
		logs[k].check("side by side")
		wantLog(t, "by itself", alone[k], logs[k].plain)
	}
}

// Whatever comes.

// decoded is an operation of eight bytes, which may be or not.
func decoded(b []byte) api.Op {
	names := []string{"a", "b", "c", "12345678", "", "..", "a/", "d"}
	// The root and inodes that are made are named more often than others.
	inode := func(x byte) api.Stamp { return at(int64(x%8), int(x/128)) }
	o := api.Op{Stamp: decodedStamp(b[0]), Kind: int(b[1] % 12), At: inode(b[2]), Ino: inode(b[3]), To: inode(b[4]), Name: names[b[5]%8], New: names[b[5]/8%8], Off: int(b[6])%70 - 1, Data: strings.Repeat("x", int(b[7]%66))}
	if b[1] < 192 {
		return fields(o)
	}
	return o
}

func decodedStamp(x byte) api.Stamp {
	return at(int64(x%16), int(x/16%9))
}

func FuzzLog(f *testing.F) {
	f.Add([]byte{})
	f.Add([]byte{5, 200})
	f.Add([]byte{3, 2, 1, 0, 0, 0, 0, 0, 0, 1, 2, 0, 0, 0, 0, 0, 0})
	f.Add([]byte{18, 1, 1, 0, 0, 0, 0, 0, 0, 2, 1, 0, 0, 0, 1, 0, 0, 19, 7, 0, 2, 1, 9, 0, 0, 3, 7, 0, 1, 2, 0, 0, 0, 4, 6, 0, 1, 0, 0, 0, 0, 4, 5, 0, 1, 0, 0, 0, 0})
	f.Add([]byte{0, 4, 2, 0, 0, 0, 0, 0, 0, 3, 255, 2, 1, 0, 1, 0, 0, 1, 9, 0, 1, 1, 0, 0, 0, 0, 0, 0, 252, 5, 8, 0, 4, 0, 0, 3, 4, 6, 7, 0, 4, 0, 1, 0, 0})
	f.Fuzz(func(t *testing.T, b []byte) {
		floor := api.Stamp{}
		if len(b) > 0 {
			floor, b = decodedStamp(b[0]), b[1:]
		}
		if !maybe(floor) {
			if From(graph.New(), floor, nil) != nil {
				t.Fatal(floor)
			}
			return
		}
		log := from(t, graph.New(), floor, nil)
		var came []api.Op
		for range 60 {
			if len(b) >= 2 && b[0] >= 250 {
				log.compact(decodedStamp(b[1]))
				b = b[2:]
				continue
			}
			if len(b) < 8 {
				break
			}
			if o := decoded(b); log.add(o) {
				came = append(came, o)
			}
			b = b[8:]
		}
		wantGraph(t, "all that was taken", log.log.Graph(), fold.Of(came))
		wantFine(t, log.log.Graph())
		wantApart(t, "behind all", log.log, log.plain)
	})
}
