package graph

import (
	"math"
	"math/rand/v2"
	"reflect"
	"strconv"
	"strings"
	"testing"

	"thimble/api"
)

// plain is a graph as the chapter's words say it: lists in which all is looked for, and links that are counted whenever they are asked for.
type plain struct {
	inodes  []api.Inode
	entries []api.Entry
}

func newPlain() *plain {
	return &plain{inodes: []api.Inode{{Kind: 1}}}
}

func (p *plain) copy() *plain {
	return &plain{append([]api.Inode{}, p.inodes...), append([]api.Entry{}, p.entries...)}
}

func (p *plain) links(id api.Stamp) int {
	n := 0
	for _, e := range p.entries {
		if e.Ino == id {
			n++
		}
	}
	return n
}

func (p *plain) get(id api.Stamp) (api.Inode, bool) {
	for _, i := range p.inodes {
		if i.Id == id {
			i.Links = p.links(id)
			return i, true
		}
	}
	return api.Inode{}, false
}

func (p *plain) look(at api.Stamp, name string) (api.Stamp, bool) {
	for _, e := range p.entries {
		if e.At == at && e.Name == name {
			return e.Ino, true
		}
	}
	return api.Stamp{}, false
}

func aheadStamp(a, b api.Stamp) bool {
	return a.Time < b.Time || a.Time == b.Time && a.Rep < b.Rep
}

func aheadName(a, b string) bool {
	for i := range len(a) {
		if i == len(b) || a[i] > b[i] {
			return false
		}
		if a[i] < b[i] {
			return true
		}
	}
	return len(a) < len(b)
}

// inOrder puts one thing behind the other, each the first of those that are left.
func inOrder[T any](l []T, ahead func(a, b T) bool) []T {
	l = append([]T{}, l...)
	var told []T
	for len(l) > 0 {
		first := 0
		for i := range l {
			if ahead(l[i], l[first]) {
				first = i
			}
		}
		told = append(told, l[first])
		l = append(l[:first], l[first+1:]...)
	}
	return told
}

func (p *plain) allInodes() []api.Inode {
	var l []api.Inode
	for _, i := range p.inodes {
		i.Links = p.links(i.Id)
		l = append(l, i)
	}
	return inOrder(l, func(a, b api.Inode) bool { return aheadStamp(a.Id, b.Id) })
}

func (p *plain) allEntries() []api.Entry {
	return inOrder(p.entries, func(a, b api.Entry) bool {
		return aheadStamp(a.At, b.At) || a.At == b.At && aheadName(a.Name, b.Name)
	})
}

func (p *plain) list(at api.Stamp) []api.Entry {
	var l []api.Entry
	for _, e := range p.allEntries() {
		if e.At == at {
			l = append(l, e)
		}
	}
	return l
}

func (p *plain) parent(dir api.Stamp) (api.Stamp, bool) {
	if i, _ := p.get(dir); i.Kind != 1 {
		return api.Stamp{}, false
	}
	for _, e := range p.allEntries() {
		if e.Ino == dir {
			return e.At, true
		}
	}
	return api.Stamp{}, false
}

func (p *plain) under(id, dir api.Stamp) bool {
	if id == dir {
		return true
	}
	up, there := p.parent(id)
	return there && p.under(up, dir)
}

func (p *plain) make(id api.Stamp, kind int) api.Errno {
	isRoot := id == api.Stamp{}
	isStamp := id.Time >= 1 && id.Time <= 1<<30 && id.Rep >= 0 && id.Rep <= 7
	if !isRoot && !isStamp || kind < 1 || kind > 3 {
		return 1
	}
	if _, there := p.get(id); there {
		return 4
	}
	if len(p.inodes) >= 40 {
		return 13
	}
	p.inodes = append(p.inodes, api.Inode{Id: id, Kind: kind})
	return 0
}

func isName(s string) bool {
	return s != "" && len(s) <= 8 && s != "." && s != ".." && !strings.ContainsAny(s, "/\x00")
}

func (p *plain) tie(e api.Entry) api.Errno {
	dir, isAt := p.get(e.At)
	inode, isIno := p.get(e.Ino)
	_, there := p.look(e.At, e.Name)
	switch {
	case !isName(e.Name):
		return 1
	case !isAt || !isIno:
		return 3
	case dir.Kind != 1:
		return 6
	case there:
		return 4
	case e.Ino == api.Stamp{} || inode.Kind == 1 && p.under(e.At, e.Ino):
		return 8
	case inode.Kind == 1 && inode.Links > 0 || inode.Links >= 6:
		return 12
	}
	p.entries = append(p.entries, e)
	return 0
}

func (p *plain) untie(at api.Stamp, name string) (api.Stamp, api.Errno) {
	for i, e := range p.entries {
		if e.At == at && e.Name == name {
			p.entries = append(p.entries[:i], p.entries[i+1:]...)
			return e.Ino, 0
		}
	}
	return api.Stamp{}, 3
}

func (p *plain) drop(id api.Stamp) api.Errno {
	i, there := p.get(id)
	switch {
	case !there:
		return 3
	case id == api.Stamp{}:
		return 8
	case i.Links > 0 || len(p.list(id)) > 0:
		return 7
	}
	for k := range p.inodes {
		if p.inodes[k].Id == id {
			p.inodes = append(p.inodes[:k], p.inodes[k+1:]...)
			break
		}
	}
	return 0
}

func (p *plain) set(id api.Stamp, mode int, data string) api.Errno {
	for k := range p.inodes {
		if p.inodes[k].Id == id {
			p.inodes[k].Mode, p.inodes[k].Data = mode, data
			return 0
		}
	}
	return 3
}

// id is a stamp of a number: none the root's, and each other one that of a replica of its own, as far as there are so many.
func id(n int) api.Stamp {
	return api.Stamp{Time: int64(n), Rep: n % 8}
}

// no is a stamp that may be, and that no test makes an inode of.
func no() api.Stamp {
	return api.Stamp{Time: 999, Rep: 3}
}

// badStamps may not be.
func badStamps() []api.Stamp {
	return []api.Stamp{
		{Time: 0, Rep: 1}, {Time: 0, Rep: 7}, {Time: 0, Rep: -1}, {Time: -1, Rep: 0}, {Time: -1, Rep: 3}, {Time: 1, Rep: -1}, {Time: 1, Rep: 8}, {Time: 1, Rep: 256}, {Time: 1, Rep: math.MaxInt}, {Time: 1, Rep: math.MinInt},
		{Time: 1<<30 + 1, Rep: 0}, {Time: 1<<30 + 1, Rep: 7}, {Time: 1 << 32, Rep: 0}, {Time: 1<<32 + 1, Rep: 1}, {Time: math.MaxInt64, Rep: 0}, {Time: math.MinInt64, Rep: 0},
	}
}

// badNames are none.
func badNames() []string {
	return []string{"", ".", "..", "/", "a/b", "/a", "a/", "\x00", "a\x00", "\x00a", "123456789", "a name that is far too long"}
}

func wantErr(t *testing.T, got, want api.Errno) {
	t.Helper()
	if got != want {
		t.Fatalf("error %d; want %d", got, want)
	}
}

func wantOK(t *testing.T, e api.Errno) {
	t.Helper()
	wantErr(t, e, api.OK)
}

func wantSame[T any](t *testing.T, what string, got, want T) {
	t.Helper()
	if !reflect.DeepEqual(got, want) {
		t.Fatalf("%s: %v; want %v", what, got, want)
	}
}

// wantList holds lists against each other; one that is nil is as an empty one.
func wantList[T any](t *testing.T, what string, got, want []T) {
	t.Helper()
	if len(got)+len(want) > 0 {
		wantSame(t, what, got, want)
	}
}

// told is what a call tells that has two results.
type told[A, B any] struct {
	A A
	B B
}

func both[A, B any](a A, b B) told[A, B] {
	return told[A, B]{a, b}
}

// wantLists asks a graph for all that there is.
func wantLists(t *testing.T, g *Graph, p *plain) {
	t.Helper()
	if g == nil {
		t.Fatal("no graph")
	}
	wantList(t, "Inodes", g.Inodes(), p.allInodes())
	wantList(t, "Entries", g.Entries(), p.allEntries())
}

// wantGraph asks a graph for all that it tells, of each inode and of some that aren't there.
func wantGraph(t *testing.T, g *Graph, p *plain) {
	t.Helper()
	wantLists(t, g, p)
	ids := []api.Stamp{no(), {Time: 1, Rep: 0}, {Rep: 1}, {Time: -5, Rep: 9}}
	for _, i := range p.inodes {
		ids = append(ids, i.Id)
	}
	names := []string{"", ".", "a", "nowhere"}
	for _, e := range p.entries {
		names = append(names, e.Name)
	}
	for _, a := range ids {
		wantSame(t, "Get", both(g.Get(a)), both(p.get(a)))
		wantList(t, "List", g.List(a), p.list(a))
		wantSame(t, "Parent", both(g.Parent(a)), both(p.parent(a)))
		for _, name := range names {
			wantSame(t, "Look", both(g.Look(a, name)), both(p.look(a, name)))
		}
		for _, b := range ids {
			wantSame(t, "Under", g.Under(a, b), p.under(a, b))
		}
	}
	wantLists(t, g, p)
}

// row is a graph and a plain one to which the same is done.
type row struct {
	t *testing.T
	g *Graph
	p *plain
}

func begun(t *testing.T) row {
	return row{t, New(), newPlain()}
}

func (r row) make(id api.Stamp, kind int) api.Errno {
	r.t.Helper()
	e := r.g.Make(id, kind)
	wantSame(r.t, "Make", e, r.p.make(id, kind))
	return e
}

func (r row) tie(at api.Stamp, name string, ino api.Stamp) api.Errno {
	r.t.Helper()
	e := r.g.Tie(api.Entry{At: at, Name: name, Ino: ino})
	wantSame(r.t, "Tie of "+strconv.Quote(name), e, r.p.tie(api.Entry{At: at, Name: name, Ino: ino}))
	return e
}

func (r row) untie(at api.Stamp, name string) (api.Stamp, api.Errno) {
	r.t.Helper()
	ino, e := r.g.Untie(at, name)
	wantSame(r.t, "Untie", both(ino, e), both(r.p.untie(at, name)))
	return ino, e
}

func (r row) drop(id api.Stamp) api.Errno {
	r.t.Helper()
	e := r.g.Drop(id)
	wantSame(r.t, "Drop", e, r.p.drop(id))
	return e
}

func (r row) set(id api.Stamp, mode int, data string) api.Errno {
	r.t.Helper()
	e := r.g.Set(id, mode, data)
	wantSame(r.t, "Set", e, r.p.set(id, mode, data))
	return e
}

func (r row) copy() row {
	return row{r.t, r.g.Copy(), r.p.copy()}
}

func (r row) want() {
	r.t.Helper()
	wantGraph(r.t, r.g, r.p)
}

// Inodes of the graph that laid makes.
const (
	nRoot   = 0
	nA      = 1  // a directory in the root
	nB      = 2  // one in nA
	nC      = 3  // one in nB
	nLone   = 4  // a directory that is tied nowhere, with entries
	nIn     = 5  // a directory in nLone
	nFile   = 6  // a file with two links
	nFive   = 7  // a file with five
	nSix    = 8  // a file with six
	nSym    = 9  // a symbolic link
	nLoose  = 10 // a file that is tied nowhere
	nHollow = 11 // a directory that is tied nowhere, and has no entries
	nEmpty  = 12 // a directory in the root without entries
	nBare   = 13 // a symbolic link that is tied nowhere
)

// laid is a graph of all sorts.
func laid(t *testing.T) row {
	t.Helper()
	r := begun(t)
	kinds := [...]int{0, 1, 1, 1, 1, 1, 2, 2, 2, 3, 2, 1, 1, 3}
	for n, kind := range kinds {
		if n > 0 {
			wantOK(t, r.make(id(n), kind))
		}
	}
	for _, e := range []struct {
		at   int
		name string
		ino  int
	}{
		{nRoot, "a", nA}, {nA, "b", nB}, {nB, "c", nC}, {nLone, "in", nIn}, {nRoot, "f", nFile}, {nB, "f", nFile}, {nRoot, "empty", nEmpty},
		{nRoot, "5", nFive}, {nA, "5", nFive}, {nA, "51", nFive}, {nC, "5", nFive}, {nIn, "5", nFive},
		{nRoot, "6", nSix}, {nA, "6", nSix}, {nA, "61", nSix}, {nC, "6", nSix}, {nIn, "6", nSix}, {nLone, "6", nSix},
		{nB, "s", nSym},
	} {
		wantOK(t, r.tie(id(e.at), e.name, id(e.ino)))
	}
	wantOK(t, r.set(id(nA), 7, ""))
	wantOK(t, r.set(id(nFile), 420, "text"))
	wantOK(t, r.set(id(nSym), 511, "/a/b"))
	return r
}

// P9.1: what a graph tells.

func TestNew(t *testing.T) {
	g := New()
	wantSame(t, "Inodes", g.Inodes(), []api.Inode{{Id: api.Stamp{}, Kind: api.Dir, Links: 0, Mode: 0, Data: ""}})
	wantList(t, "Entries", g.Entries(), nil)
	wantList(t, "List", g.List(id(0)), nil)
	wantSame(t, "Get", both(g.Get(id(0))), both(api.Inode{Kind: api.Dir}, true))
	wantSame(t, "Parent", both(g.Parent(id(0))), both(api.Stamp{}, false))
	wantGraph(t, g, newPlain())
}

func TestNewGraphsShareNothing(t *testing.T) {
	a, b := New(), New()
	wantOK(t, a.Make(id(1), api.Dir))
	wantOK(t, a.Tie(api.Entry{Name: "a", Ino: id(1)}))
	wantOK(t, a.Set(id(0), 5, "x"))
	wantGraph(t, b, newPlain())
	wantOK(t, b.Make(id(2), api.File))
	wantGraph(t, New(), newPlain())
}

func TestAll(t *testing.T) {
	laid(t).want()
}

func TestGet(t *testing.T) {
	g := laid(t).g
	for _, want := range []api.Inode{
		{Id: id(nRoot), Kind: api.Dir},
		{Id: id(nA), Kind: api.Dir, Links: 1, Mode: 7},
		{Id: id(nLone), Kind: api.Dir},
		{Id: id(nHollow), Kind: api.Dir},
		{Id: id(nFile), Kind: api.File, Links: 2, Mode: 420, Data: "text"},
		{Id: id(nFive), Kind: api.File, Links: 5},
		{Id: id(nSix), Kind: api.File, Links: 6},
		{Id: id(nLoose), Kind: api.File},
		{Id: id(nSym), Kind: api.Sym, Links: 1, Mode: 511, Data: "/a/b"},
	} {
		wantSame(t, "Get", both(g.Get(want.Id)), both(want, true))
	}
	// Of the same time, of the same replica, and such as may not be.
	for _, id := range append(badStamps(), no(), api.Stamp{Time: 1, Rep: 2}, api.Stamp{Time: 9, Rep: 2}) {
		wantSame(t, "Get", both(g.Get(id)), both(api.Inode{}, false))
	}
}

func TestLook(t *testing.T) {
	g := laid(t).g
	for _, x := range []struct {
		at   int
		name string
		ino  int
	}{{nRoot, "a", nA}, {nA, "b", nB}, {nB, "c", nC}, {nRoot, "f", nFile}, {nB, "f", nFile}, {nB, "s", nSym}, {nA, "5", nFive}, {nA, "51", nFive}, {nLone, "in", nIn}} {
		wantSame(t, "Look", both(g.Look(id(x.at), x.name)), both(id(x.ino), true))
	}
	for _, x := range []struct {
		at   api.Stamp
		name string
	}{{id(nRoot), "b"}, {id(nA), "a"}, {id(nA), "f"}, {id(nRoot), "A"}, {id(nRoot), ""}, {id(nA), "511"}, {id(nA), "."}, {id(nB), ".."}, {id(nFile), "f"}, {id(nSym), "a"}, {id(nHollow), "a"}, {id(nEmpty), "a"}, {no(), "a"}, {api.Stamp{Rep: 1}, "a"}, {api.Stamp{Time: -1}, "a"}} {
		wantSame(t, "Look", both(g.Look(x.at, x.name)), both(api.Stamp{}, false))
	}
}

func TestList(t *testing.T) {
	g := laid(t).g
	wantSame(t, "List", g.List(id(nA)), []api.Entry{{At: id(nA), Name: "5", Ino: id(nFive)}, {At: id(nA), Name: "51", Ino: id(nFive)}, {At: id(nA), Name: "6", Ino: id(nSix)}, {At: id(nA), Name: "61", Ino: id(nSix)}, {At: id(nA), Name: "b", Ino: id(nB)}})
	// Of a directory that is tied nowhere, too.
	wantSame(t, "List", g.List(id(nLone)), []api.Entry{{At: id(nLone), Name: "6", Ino: id(nSix)}, {At: id(nLone), Name: "in", Ino: id(nIn)}})
	for _, at := range append(badStamps(), id(nEmpty), id(nHollow), id(nFile), id(nSym), id(nLoose), no()) {
		wantList(t, "List", g.List(at), nil)
	}
}

func TestTheOrderOfInodes(t *testing.T) {
	want := []api.Stamp{{}, {Time: 1, Rep: 0}, {Time: 1, Rep: 1}, {Time: 1, Rep: 6}, {Time: 1, Rep: 7}, {Time: 2, Rep: 0}, {Time: 2, Rep: 5}, {Time: 9, Rep: 3}, {Time: 10, Rep: 2}, {Time: 11, Rep: 0}, {Time: 100, Rep: 1}, {Time: 256, Rep: 0}, {Time: 1 << 30, Rep: 0}, {Time: 1 << 30, Rep: 7}}
	r := rand.New(rand.NewPCG(9, 1))
	for range 50 {
		g := New()
		for _, n := range r.Perm(len(want)) {
			if n > 0 {
				wantOK(t, g.Make(want[n], 1+r.IntN(3)))
			}
		}
		var got []api.Stamp
		for _, i := range g.Inodes() {
			got = append(got, i.Id)
		}
		wantSame(t, "Inodes", got, want)
	}
}

func TestTheOrderOfEntries(t *testing.T) {
	names := []string{"\x01", "\n", "!", "-", "0", "10", "2", "A", "Z", "a", "a!", "aa", "aaa", "aab", "ab", "b", "\x7f", "\x80", "\xc3\xbc", "\xff", "\xff\xff"}
	dirs := []api.Stamp{{}, {Time: 1, Rep: 0}, {Time: 1, Rep: 3}, {Time: 1, Rep: 7}, {Time: 2, Rep: 0}, {Time: 10, Rep: 1}}
	file := api.Stamp{Time: 5, Rep: 5}
	r := rand.New(rand.NewPCG(9, 2))
	for range 30 {
		g := New()
		for _, dir := range dirs[1:] {
			wantOK(t, g.Make(dir, api.Dir))
		}
		// The names of each directory are others: else there would be too many links.
		var want []api.Entry
		used := make([]int, len(names))
		for _, dir := range dirs {
			for k, name := range names {
				if r.IntN(2) == 0 {
					used[k]++
					want = append(want, api.Entry{At: dir, Name: name, Ino: api.Stamp{Time: int64(20 + k), Rep: 1}})
				}
			}
		}
		for k := range names {
			wantOK(t, g.Make(api.Stamp{Time: int64(20 + k), Rep: 1}, api.File))
		}
		wantOK(t, g.Make(file, api.File))
		for _, n := range r.Perm(len(want)) {
			wantOK(t, g.Tie(want[n]))
		}
		wantList(t, "Entries", g.Entries(), want)
		for _, dir := range dirs {
			var own []api.Entry
			for _, e := range want {
				if e.At == dir {
					own = append(own, e)
				}
			}
			wantList(t, "List", g.List(dir), own)
		}
	}
}

func TestLinksBehindEachDeed(t *testing.T) {
	r := begun(t)
	links := func(want int) {
		t.Helper()
		i, there := r.g.Get(id(2))
		if !there || i.Links != want || r.g.Inodes()[2].Links != want {
			t.Fatalf("%v, %t; want %d links", i, there, want)
		}
		r.want()
	}
	wantOK(t, r.make(id(1), api.Dir))
	wantOK(t, r.make(id(2), api.File))
	links(0)
	wantOK(t, r.tie(id(0), "a", id(2)))
	links(1)
	wantOK(t, r.tie(id(1), "a", id(2)))
	links(2)
	wantErr(t, r.tie(id(1), "a", id(2)), api.ErrThere)
	links(2)
	wantErr(t, r.tie(id(2), "b", id(2)), api.ErrFile)
	links(2)
	wantOK(t, r.set(id(2), 9, "data"))
	links(2)
	wantOK(t, r.tie(id(0), "dir", id(1)))
	links(2)
	wantErr(t, r.drop(id(2)), api.ErrFull)
	links(2)
	r.untie(id(0), "a")
	links(1)
	r.untie(id(0), "a")
	links(1)
	r.untie(id(0), "dir")
	links(1)
	r.untie(id(1), "a")
	links(0)
	wantOK(t, r.tie(id(0), "b", id(2)))
	links(1)
}

// P9.2: who is the parent, and who is under whom.

func TestParent(t *testing.T) {
	g := laid(t).g
	for dir, up := range map[int]int{nA: nRoot, nB: nA, nC: nB, nIn: nLone, nEmpty: nRoot} {
		wantSame(t, "Parent", both(g.Parent(id(dir))), both(id(up), true))
	}
	for _, id := range append(badStamps(), id(nRoot), id(nLone), id(nHollow), id(nFile), id(nFive), id(nSix), id(nSym), id(nLoose), id(nBare), no()) {
		wantSame(t, "Parent", both(g.Parent(id)), both(api.Stamp{}, false))
	}
}

func TestParentOfADirectoryThatMoves(t *testing.T) {
	r := laid(t)
	for _, at := range []int{nEmpty, nLone, nRoot, nHollow, nIn, nB} {
		up, _ := r.g.Parent(id(nC))
		_, e := r.untie(up, "c")
		wantOK(t, e)
		wantSame(t, "Parent", both(r.g.Parent(id(nC))), both(api.Stamp{}, false))
		r.want()
		wantOK(t, r.tie(id(at), "c", id(nC)))
		wantSame(t, "Parent", both(r.g.Parent(id(nC))), both(id(at), true))
		r.want()
	}
}

func TestUnder(t *testing.T) {
	g := laid(t).g
	above := map[int][]int{
		nRoot: {nRoot}, nA: {nA, nRoot}, nB: {nB, nA, nRoot}, nC: {nC, nB, nA, nRoot}, nLone: {nLone}, nIn: {nIn, nLone}, nEmpty: {nEmpty, nRoot}, nHollow: {nHollow},
		// What is no directory has no parent, whatever names it has: it is under itself alone.
		nFile: {nFile}, nFive: {nFive}, nSix: {nSix}, nSym: {nSym}, nLoose: {nLoose}, nBare: {nBare},
	}
	for a := nRoot; a <= nBare; a++ {
		for b := nRoot; b <= nBare; b++ {
			want := false
			for _, n := range above[a] {
				want = want || n == b
			}
			wantSame(t, strconv.Itoa(a)+" under "+strconv.Itoa(b), g.Under(id(a), id(b)), want)
		}
		for _, other := range append(badStamps(), no()) {
			wantSame(t, "Under", g.Under(id(a), other), false)
			wantSame(t, "Under", g.Under(other, id(a)), false)
		}
	}
	// What isn't there is itself, too, and under nothing else.
	wantSame(t, "Under", g.Under(no(), no()), true)
	wantSame(t, "Under", g.Under(no(), api.Stamp{Time: 998}), false)
}

func TestUnderFarDown(t *testing.T) {
	r := begun(t)
	for n := 1; n < 40; n++ {
		wantOK(t, r.make(id(n), api.Dir))
		wantOK(t, r.tie(id(n-1), "d", id(n)))
	}
	for a := range 40 {
		for b := range 40 {
			wantSame(t, "Under", r.g.Under(id(a), id(b)), b <= a)
		}
	}
	// Cut in the middle.
	_, e := r.untie(id(19), "d")
	wantOK(t, e)
	for a := range 40 {
		for b := range 40 {
			wantSame(t, "Under", r.g.Under(id(a), id(b)), b <= a && (a < 20) == (b < 20))
		}
	}
	// Only below the upper half it may be tied again.
	for n := range 40 {
		want := api.OK
		if n >= 20 {
			want = api.ErrInval
		}
		c := r.copy()
		wantErr(t, c.tie(id(n), "e", id(20)), want)
	}
	wantErr(t, r.tie(id(39), "e", id(1)), api.ErrLinks)
	wantErr(t, r.tie(id(19), "e", id(1)), api.ErrInval)
	wantErr(t, r.tie(id(39), "e", id(20)), api.ErrInval)
	r.want()
}

// P9.3: what is made.

func TestMake(t *testing.T) {
	for _, kind := range []int{api.Dir, api.File, api.Sym} {
		for _, id := range []api.Stamp{{Time: 1, Rep: 0}, {Time: 1, Rep: 7}, {Time: 1 << 30, Rep: 0}, {Time: 1 << 30, Rep: 7}, {Time: 300, Rep: 3}} {
			r := begun(t)
			wantOK(t, r.make(id, kind))
			wantSame(t, "Get", both(r.g.Get(id)), both(api.Inode{Id: id, Kind: kind}, true))
			r.want()
		}
	}
}

func TestMakeOfStampsThatMayNotBe(t *testing.T) {
	for _, r := range []row{begun(t), laid(t), crowded(t)} {
		for _, id := range badStamps() {
			for _, kind := range []int{1, 2, 3, 0, 4, -1} {
				wantErr(t, r.make(id, kind), api.ErrArg)
			}
		}
		r.want()
	}
}

func TestMakeOfKindsThatAreNone(t *testing.T) {
	// Told ahead of all else: of what is there, of the root, and when there is no room.
	for _, r := range []row{begun(t), laid(t), crowded(t)} {
		for _, kind := range []int{0, 4, -1, -2, 5, 7, 255, 256, 257, 258, 259, 1 << 32, 1<<32 + 1, math.MaxInt, math.MinInt} {
			for _, id := range []api.Stamp{id(0), id(1), id(2), id(6), no()} {
				wantErr(t, r.make(id, kind), api.ErrArg)
			}
		}
		r.want()
	}
}

func TestMakeOfWhatIsThere(t *testing.T) {
	r := laid(t)
	for n := range nBare + 1 {
		for _, kind := range []int{1, 2, 3} {
			wantErr(t, r.make(id(n), kind), api.ErrThere)
		}
	}
	r.want()
	for _, kind := range []int{1, 2, 3} {
		wantErr(t, New().Make(api.Stamp{}, kind), api.ErrThere)
	}
	// Of the same time, by another replica, and the other way round.
	wantOK(t, r.make(api.Stamp{Time: 1, Rep: 2}, api.File))
	wantOK(t, r.make(api.Stamp{Time: 14, Rep: 1}, api.File))
	r.want()
}

// crowded is a graph of 40 inodes.
func crowded(t *testing.T) row {
	t.Helper()
	r := laid(t)
	for n := nBare + 1; n < 40; n++ {
		wantOK(t, r.make(id(n), 1+n%3))
	}
	return r
}

func TestMakeOfTooMany(t *testing.T) {
	r := begun(t)
	for n := 1; n < 40; n++ {
		// The root is one of the 40.
		wantOK(t, r.make(id(n), 1+n%3))
		wantSame(t, "many", len(r.g.Inodes()), n+1)
	}
	for _, kind := range []int{1, 2, 3} {
		wantErr(t, r.make(id(40), kind), api.ErrSpace)
		wantErr(t, r.make(id(41), kind), api.ErrSpace)
		// What is there is told ahead of it.
		wantErr(t, r.make(id(39), kind), api.ErrThere)
		wantErr(t, r.make(id(0), kind), api.ErrThere)
	}
	r.want()
	wantOK(t, r.drop(id(7)))
	wantOK(t, r.make(id(40), api.File))
	wantErr(t, r.make(id(7), api.File), api.ErrSpace)
	r.want()
}

func TestMakeOfWhatWasDropped(t *testing.T) {
	r := laid(t)
	wantOK(t, r.set(id(nLoose), 5, "old"))
	wantOK(t, r.drop(id(nLoose)))
	wantOK(t, r.make(id(nLoose), api.Dir))
	wantSame(t, "Get", both(r.g.Get(id(nLoose))), both(api.Inode{Id: id(nLoose), Kind: api.Dir}, true))
	r.want()
}

// P9.3: what is tied.

func TestTheExample(t *testing.T) {
	g := New()
	wantOK(t, g.Make(id(1), api.Dir))
	wantOK(t, g.Tie(api.Entry{Name: "a", Ino: id(1)}))
	wantErr(t, g.Tie(api.Entry{At: id(1), Name: "r", Ino: id(0)}), api.ErrInval)
	wantSame(t, "Entries", g.Entries(), []api.Entry{{Name: "a", Ino: id(1)}})
	wantSame(t, "Get", both(g.Get(id(1))), both(api.Inode{Id: id(1), Kind: api.Dir, Links: 1}, true))
}

func TestTie(t *testing.T) {
	for _, x := range []struct {
		at   int
		name string
		ino  int
	}{
		{nRoot, "new", nLoose}, {nRoot, "new", nBare}, {nRoot, "new", nHollow}, {nRoot, "new", nLone}, {nC, "new", nLone}, {nHollow, "new", nLone}, {nLone, "new", nHollow}, {nIn, "new", nHollow},
		{nRoot, "new", nFile}, {nC, "new", nFile}, {nHollow, "new", nFile}, {nRoot, "new", nFive}, {nRoot, "new", nSym},
		// The same name, as in another directory, and one that is another's begin.
		{nA, "a", nLoose}, {nA, "f", nFile}, {nEmpty, "f", nFile}, {nC, "c", nHollow}, {nRoot, "b", nFile}, {nA, "511", nFile}, {nRoot, "empt", nFile}, {nRoot, "emptyy", nFile},
		// Whatever bytes a name may have.
		{nRoot, "x", nLoose}, {nRoot, "12345678", nLoose}, {nRoot, "...", nLoose}, {nRoot, "\xff\xfe", nLoose}, {nRoot, "\n", nLoose}, {nRoot, " ", nLoose}, {nRoot, "F", nLoose},
	} {
		r := laid(t)
		old, _ := r.g.Get(id(x.ino))
		wantOK(t, r.tie(id(x.at), x.name, id(x.ino)))
		wantSame(t, "Look", both(r.g.Look(id(x.at), x.name)), both(id(x.ino), true))
		old.Links++
		wantSame(t, "Get", both(r.g.Get(id(x.ino))), both(old, true))
		r.want()
	}
}

// tieErrors are entries that can't be, and why, of the graph that laid makes: each error alone, and with others that are named behind it.
func tieErrors() map[api.Errno][]api.Entry {
	far := api.Stamp{Time: math.MaxInt64, Rep: math.MinInt}
	all := map[api.Errno][]api.Entry{
		api.ErrNone: {
			{At: no(), Name: "new", Ino: id(nLoose)}, {At: id(nRoot), Name: "new", Ino: no()}, {At: no(), Name: "new", Ino: no()},
			{At: far, Name: "new", Ino: id(nLoose)}, {At: id(nRoot), Name: "new", Ino: far}, {At: api.Stamp{Rep: 1}, Name: "new", Ino: id(nLoose)}, {At: id(nRoot), Name: "new", Ino: api.Stamp{Rep: 1}},
			// With At that is no directory; with an entry; with Ino that is the root, a directory with a link, a file with six.
			{At: id(nFile), Name: "new", Ino: no()}, {At: id(nSym), Name: "new", Ino: no()}, {At: id(nRoot), Name: "a", Ino: no()},
			{At: no(), Name: "new", Ino: id(nRoot)}, {At: no(), Name: "a", Ino: id(nA)}, {At: no(), Name: "new", Ino: id(nSix)},
		},
		api.ErrFile: {
			{At: id(nFile), Name: "new", Ino: id(nLoose)}, {At: id(nSym), Name: "new", Ino: id(nLoose)}, {At: id(nLoose), Name: "new", Ino: id(nHollow)}, {At: id(nBare), Name: "new", Ino: id(nFile)},
			// In itself; with Ino that is the root, a directory with a link, a file with six.
			{At: id(nLoose), Name: "new", Ino: id(nLoose)}, {At: id(nFile), Name: "new", Ino: id(nRoot)}, {At: id(nFile), Name: "new", Ino: id(nA)}, {At: id(nSym), Name: "new", Ino: id(nB)}, {At: id(nFile), Name: "new", Ino: id(nSix)}, {At: id(nSix), Name: "6", Ino: id(nSix)},
		},
		api.ErrThere: {
			{At: id(nRoot), Name: "a", Ino: id(nLoose)}, {At: id(nRoot), Name: "f", Ino: id(nHollow)}, {At: id(nB), Name: "s", Ino: id(nFile)}, {At: id(nRoot), Name: "f", Ino: id(nFile)}, {At: id(nLone), Name: "in", Ino: id(nLoose)},
			// With Ino that is the root, a directory that At is (under), one with a link, a file with six.
			{At: id(nRoot), Name: "a", Ino: id(nRoot)}, {At: id(nA), Name: "b", Ino: id(nRoot)}, {At: id(nA), Name: "b", Ino: id(nA)}, {At: id(nB), Name: "c", Ino: id(nA)}, {At: id(nLone), Name: "in", Ino: id(nLone)}, {At: id(nRoot), Name: "a", Ino: id(nA)}, {At: id(nRoot), Name: "f", Ino: id(nB)}, {At: id(nRoot), Name: "a", Ino: id(nSix)}, {At: id(nRoot), Name: "6", Ino: id(nSix)},
		},
		api.ErrInval: {
			{At: id(nRoot), Name: "new", Ino: id(nRoot)}, {At: id(nA), Name: "new", Ino: id(nRoot)}, {At: id(nC), Name: "new", Ino: id(nRoot)}, {At: id(nEmpty), Name: "new", Ino: id(nRoot)},
			// The root in directories that aren't under it.
			{At: id(nLone), Name: "new", Ino: id(nRoot)}, {At: id(nIn), Name: "new", Ino: id(nRoot)}, {At: id(nHollow), Name: "new", Ino: id(nRoot)},
			// Directories without a link: in themselves, and below.
			{At: id(nLone), Name: "new", Ino: id(nLone)}, {At: id(nIn), Name: "new", Ino: id(nLone)}, {At: id(nHollow), Name: "new", Ino: id(nHollow)},
			// With one.
			{At: id(nA), Name: "new", Ino: id(nA)}, {At: id(nB), Name: "new", Ino: id(nA)}, {At: id(nC), Name: "new", Ino: id(nA)}, {At: id(nC), Name: "new", Ino: id(nB)}, {At: id(nIn), Name: "new", Ino: id(nIn)}, {At: id(nEmpty), Name: "new", Ino: id(nEmpty)},
		},
		api.ErrLinks: {
			{At: id(nRoot), Name: "new", Ino: id(nA)}, {At: id(nRoot), Name: "new", Ino: id(nB)}, {At: id(nRoot), Name: "new", Ino: id(nC)}, {At: id(nA), Name: "new", Ino: id(nC)}, {At: id(nB), Name: "new", Ino: id(nC)}, {At: id(nEmpty), Name: "new", Ino: id(nA)}, {At: id(nLone), Name: "new", Ino: id(nA)}, {At: id(nRoot), Name: "new", Ino: id(nIn)}, {At: id(nA), Name: "new", Ino: id(nEmpty)},
			{At: id(nRoot), Name: "new", Ino: id(nSix)}, {At: id(nC), Name: "new", Ino: id(nSix)}, {At: id(nHollow), Name: "new", Ino: id(nSix)},
		},
	}
	// A name that is none, alone, and with each other error.
	for _, name := range badNames() {
		all[api.ErrArg] = append(all[api.ErrArg], api.Entry{At: id(nRoot), Name: name, Ino: id(nLoose)}, api.Entry{At: no(), Name: name, Ino: no()}, api.Entry{At: id(nFile), Name: name, Ino: id(nLoose)}, api.Entry{At: id(nA), Name: name, Ino: id(nRoot)}, api.Entry{At: id(nRoot), Name: name, Ino: id(nA)}, api.Entry{At: id(nRoot), Name: name, Ino: id(nSix)})
	}
	return all
}

func TestTieOfWhatCantBe(t *testing.T) {
	r := laid(t)
	for want, all := range tieErrors() {
		for _, e := range all {
			wantErr(t, r.tie(e.At, e.Name, e.Ino), want)
			wantLists(t, r.g, r.p)
		}
	}
	r.want()
}

func TestEachTie(t *testing.T) {
	r := laid(t)
	ids := []api.Stamp{no(), {Rep: 1}, {Time: math.MaxInt64}}
	for n := range nBare + 1 {
		ids = append(ids, id(n))
	}
	for _, at := range ids {
		for _, ino := range ids {
			for _, name := range []string{"a", "b", "c", "f", "5", "6", "in", "new", "", "..", "123456789"} {
				c := r.copy()
				c.tie(at, name, ino)
				wantLists(t, c.g, c.p)
			}
		}
	}
	r.want()
}

func TestLinksOfAFile(t *testing.T) {
	for _, kind := range []int{api.File, api.Sym} {
		r := begun(t)
		wantOK(t, r.make(id(1), kind))
		names := []string{"a", "b", "c", "d", "e", "f"}
		for _, name := range names {
			wantOK(t, r.tie(id(0), name, id(1)))
		}
		wantErr(t, r.tie(id(0), "g", id(1)), api.ErrLinks)
		r.want()
		// When one goes, there is room for another one.
		_, e := r.untie(id(0), "c")
		wantOK(t, e)
		wantOK(t, r.tie(id(0), "g", id(1)))
		wantErr(t, r.tie(id(0), "c", id(1)), api.ErrLinks)
		r.want()
	}
}

func TestADirectoryHasOneEntry(t *testing.T) {
	r := begun(t)
	for n := 1; n <= 3; n++ {
		wantOK(t, r.make(id(n), api.Dir))
	}
	wantOK(t, r.tie(id(1), "x", id(2)))
	for _, at := range []int{0, 1, 3} {
		wantErr(t, r.tie(id(at), "y", id(2)), api.ErrLinks)
	}
	wantOK(t, r.tie(id(0), "x", id(1)))
	wantErr(t, r.tie(id(3), "y", id(2)), api.ErrLinks)
	_, e := r.untie(id(1), "x")
	wantOK(t, e)
	wantOK(t, r.tie(id(3), "y", id(2)))
	wantErr(t, r.tie(id(2), "z", id(3)), api.ErrInval)
	r.want()
}

// P9.3: what goes, and what is set.

func TestUntie(t *testing.T) {
	for _, e := range laid(t).p.allEntries() {
		r := laid(t)
		old, _ := r.g.Get(e.Ino)
		ino, err := r.untie(e.At, e.Name)
		wantOK(t, err)
		wantSame(t, "Untie", ino, e.Ino)
		wantSame(t, "Look", both(r.g.Look(e.At, e.Name)), both(api.Stamp{}, false))
		// The inode stays, also without links.
		old.Links--
		wantSame(t, "Get", both(r.g.Get(e.Ino)), both(old, true))
		r.want()
		ino, err = r.untie(e.At, e.Name)
		wantErr(t, err, api.ErrNone)
		wantSame(t, "Untie", ino, api.Stamp{})
		r.want()
	}
}

func TestUntieOfWhatIsNotThere(t *testing.T) {
	r := laid(t)
	for _, at := range append(badStamps(), id(nRoot), id(nA), id(nB), id(nFile), id(nSym), id(nHollow), id(nEmpty), no()) {
		for _, name := range append(badNames(), "new", "A", "ab", "empt", "emptyy") {
			ino, e := r.untie(at, name)
			wantErr(t, e, api.ErrNone)
			wantSame(t, "Untie", ino, api.Stamp{})
		}
	}
	// Names that there are, in other directories.
	for _, x := range []struct {
		at   int
		name string
	}{{nRoot, "b"}, {nA, "a"}, {nA, "f"}, {nC, "c"}, {nFile, "f"}} {
		_, e := r.untie(id(x.at), x.name)
		wantErr(t, e, api.ErrNone)
	}
	r.want()
}

func TestTiedAndUntiedItIsAsItWas(t *testing.T) {
	base := laid(t)
	for at := range nBare + 1 {
		for ino := range nBare + 1 {
			g := base.g.Copy()
			if g.Tie(api.Entry{At: id(at), Name: "new", Ino: id(ino)}) != api.OK {
				continue
			}
			got, e := g.Untie(id(at), "new")
			wantOK(t, e)
			wantSame(t, "Untie", got, id(ino))
			wantLists(t, g, base.p)
		}
	}
	for _, e := range base.p.allEntries() {
		g := base.g.Copy()
		ino, _ := g.Untie(e.At, e.Name)
		wantOK(t, g.Tie(api.Entry{At: e.At, Name: e.Name, Ino: ino}))
		wantGraph(t, g, base.p)
	}
}

func TestDrop(t *testing.T) {
	for n, want := range map[int]api.Errno{
		nRoot: api.ErrInval, nA: api.ErrFull, nB: api.ErrFull, nC: api.ErrFull, nLone: api.ErrFull, nIn: api.ErrFull, nEmpty: api.ErrFull,
		nFile: api.ErrFull, nFive: api.ErrFull, nSix: api.ErrFull, nSym: api.ErrFull, nLoose: api.OK, nHollow: api.OK, nBare: api.OK,
	} {
		r := laid(t)
		wantErr(t, r.drop(id(n)), want)
		_, there := r.g.Get(id(n))
		wantSame(t, "there", there, want != api.OK)
		r.want()
	}
	r := laid(t)
	for _, id := range append(badStamps(), no()) {
		wantErr(t, r.drop(id), api.ErrNone)
	}
	r.want()
}

func TestDropOfTheRootAlone(t *testing.T) {
	g := New()
	wantErr(t, g.Drop(api.Stamp{}), api.ErrInval)
	wantGraph(t, g, newPlain())
}

func TestDropOfADirectoryAsItBecomesEmpty(t *testing.T) {
	r := begun(t)
	wantOK(t, r.make(id(1), api.Dir))
	wantOK(t, r.make(id(2), api.File))
	wantOK(t, r.tie(id(0), "d", id(1)))
	wantOK(t, r.tie(id(1), "f", id(2)))
	wantOK(t, r.tie(id(1), "g", id(2)))
	wantErr(t, r.drop(id(1)), api.ErrFull)
	r.untie(id(0), "d")
	wantErr(t, r.drop(id(1)), api.ErrFull)
	r.untie(id(1), "f")
	wantErr(t, r.drop(id(1)), api.ErrFull)
	wantErr(t, r.drop(id(2)), api.ErrFull)
	r.untie(id(1), "g")
	wantOK(t, r.drop(id(1)))
	wantErr(t, r.drop(id(1)), api.ErrNone)
	wantOK(t, r.drop(id(2)))
	wantErr(t, r.tie(id(0), "d", id(1)), api.ErrNone)
	wantErr(t, r.set(id(1), 1, "x"), api.ErrNone)
	wantGraph(t, r.g, newPlain())
}

func TestSet(t *testing.T) {
	for n := range nBare + 1 {
		r := laid(t)
		// Whatever numbers and texts: which may be is asked elsewhere.
		for _, mode := range []int{0, 1, 420, 4095, 4096, -1, math.MaxInt, math.MinInt} {
			for _, data := range []string{"", "x", "\x00\xff", strings.Repeat("long", 100)} {
				old, _ := r.g.Get(id(n))
				old.Mode, old.Data = mode, data
				wantOK(t, r.set(id(n), mode, data))
				wantSame(t, "Get", both(r.g.Get(id(n))), both(old, true))
			}
		}
		r.want()
	}
}

func TestSetOfWhatIsNotThere(t *testing.T) {
	r := laid(t)
	for _, id := range append(badStamps(), no(), api.Stamp{Time: 1, Rep: 0}) {
		wantErr(t, r.set(id, 5, "x"), api.ErrNone)
	}
	r.want()
}

// P9.4: copies, and graphs that are nil.

// turn does something of each kind to a graph.
func turn(t *testing.T, r row) {
	t.Helper()
	wantOK(t, r.make(id(30), api.Dir))
	wantOK(t, r.tie(id(nRoot), "more", id(30)))
	wantOK(t, r.tie(id(30), "f", id(nFile)))
	_, e := r.untie(id(nRoot), "f")
	wantOK(t, e)
	_, e = r.untie(id(nB), "s")
	wantOK(t, e)
	wantOK(t, r.drop(id(nSym)))
	wantOK(t, r.set(id(nRoot), 9, ""))
	wantOK(t, r.set(id(nFile), 1, "other"))
	r.want()
}

func TestACopyIsAlike(t *testing.T) {
	for _, r := range []row{begun(t), laid(t), crowded(t)} {
		c := r.copy()
		c.want()
		c.copy().want()
		r.want()
	}
}

func TestACopyStaysAsItWas(t *testing.T) {
	r := laid(t)
	c := r.copy()
	turn(t, r)
	c.want()
	r.want()
	// And the other way round.
	r = laid(t)
	c = r.copy()
	turn(t, c)
	r.want()
	c.want()
	turn(t, r)
	r.want()
	c.want()
}

func TestACopyOfACopy(t *testing.T) {
	r := laid(t)
	c := r.copy()
	d := c.copy()
	turn(t, c)
	r.want()
	d.want()
	turn(t, d)
	c.want()
	r.want()
}

func TestNoGraph(t *testing.T) {
	var g *Graph
	for _, id := range append(badStamps(), id(0), id(1), no()) {
		wantSame(t, "Get", both(g.Get(id)), both(api.Inode{}, false))
		wantList(t, "List", g.List(id), nil)
		wantSame(t, "Parent", both(g.Parent(id)), both(api.Stamp{}, false))
		wantErr(t, g.Drop(id), api.ErrNone)
		for _, name := range append(badNames(), "a") {
			wantSame(t, "Look", both(g.Look(id, name)), both(api.Stamp{}, false))
			wantSame(t, "Untie", both(g.Untie(id, name)), both(api.Stamp{}, api.ErrNone))
			wantErr(t, g.Set(id, 5, name), api.ErrNone)
		}
		// Not even what is itself.
		wantSame(t, "Under", g.Under(id, id), false)
		wantSame(t, "Under", g.Under(id, no()), false)
		wantSame(t, "Under", g.Under(no(), id), false)
	}
	wantList(t, "Inodes", g.Inodes(), nil)
	wantList(t, "Entries", g.Entries(), nil)
	if g.Copy() != nil {
		t.Error("a copy of none")
	}
	// Arguments that may not be are told ahead.
	for _, kind := range []int{1, 2, 3} {
		wantErr(t, g.Make(id(0), kind), api.ErrNone)
		wantErr(t, g.Make(id(1), kind), api.ErrNone)
		for _, id := range badStamps() {
			wantErr(t, g.Make(id, kind), api.ErrArg)
		}
	}
	for _, kind := range []int{0, 4, -1, math.MaxInt, math.MinInt} {
		wantErr(t, g.Make(id(1), kind), api.ErrArg)
	}
	wantErr(t, g.Tie(api.Entry{Name: "a"}), api.ErrNone)
	wantErr(t, g.Tie(api.Entry{At: id(1), Name: "a", Ino: id(2)}), api.ErrNone)
	for _, name := range badNames() {
		wantErr(t, g.Tie(api.Entry{At: id(1), Name: name, Ino: id(2)}), api.ErrArg)
	}
}

func TestAGraphThatNewDidNotMake(t *testing.T) {
	// The chapter says nothing of it: there is nothing in it, and nothing can be made.
	var g Graph
	wantErr(t, g.Make(id(1), api.Dir), api.ErrNone)
	wantErr(t, g.Make(id(0), api.Dir), api.ErrNone)
	wantErr(t, g.Tie(api.Entry{Name: "a"}), api.ErrNone)
	wantErr(t, g.Set(id(0), 1, "x"), api.ErrNone)
	wantErr(t, g.Drop(id(0)), api.ErrNone)
	wantSame(t, "Untie", both(g.Untie(id(0), "a")), both(api.Stamp{}, api.ErrNone))
	wantList(t, "Inodes", g.Copy().Inodes(), nil)
	wantList(t, "Entries", g.Copy().Entries(), nil)
}

// P9.4: with an error nothing changes.

func TestWithAnErrorNothingChanges(t *testing.T) {
	for _, r := range []row{laid(t), crowded(t)} {
		tell := func(e api.Errno) {
			t.Helper()
			if e == api.OK {
				t.Fatal("no error")
			}
			wantLists(t, r.g, r.p)
		}
		for _, id := range append(badStamps(), id(0), id(1), id(6)) {
			tell(r.make(id, api.Dir))
			tell(r.make(id, 0))
		}
		for _, all := range tieErrors() {
			for _, e := range all {
				tell(r.tie(e.At, e.Name, e.Ino))
			}
		}
		for _, name := range append(badNames(), "new") {
			_, e := r.untie(id(nRoot), name)
			tell(e)
		}
		for n := range nLoose {
			tell(r.drop(id(n)))
		}
		tell(r.drop(no()))
		tell(r.set(no(), 1, "x"))
		r.want()
	}
}

// R3 and R4: nothing that was told is shared with the graph, and nothing is kept elsewhere.

func TestListsThatWereToldMayBeWritten(t *testing.T) {
	r := laid(t)
	for range 2 {
		inodes, entries, list := r.g.Inodes(), r.g.Entries(), r.g.List(id(nA))
		for i := range inodes {
			inodes[i] = api.Inode{Id: no(), Kind: 9, Links: 9, Mode: 9, Data: "9"}
		}
		for i := range entries {
			entries[i] = api.Entry{At: no(), Name: "9", Ino: no()}
		}
		for i := range list {
			list[i] = api.Entry{At: no(), Name: "8", Ino: no()}
		}
		_ = append(inodes, api.Inode{Id: id(50)})
		_ = append(entries, api.Entry{Name: "50"})
		_ = append(list, api.Entry{Name: "50"})
		r.want()
	}
}

func TestListsThatWereToldStayAsTheyWere(t *testing.T) {
	r := laid(t)
	inodes, entries, list, root := r.g.Inodes(), r.g.Entries(), r.g.List(id(nA)), r.g.List(id(nRoot))
	p := r.p.copy()
	turn(t, r)
	_, e := r.untie(id(nA), "b")
	wantOK(t, e)
	wantSame(t, "Inodes", inodes, p.allInodes())
	wantSame(t, "Entries", entries, p.allEntries())
	wantSame(t, "List", list, p.list(id(nA)))
	wantSame(t, "List", root, p.list(id(nRoot)))
}

// P9.5: whatever is done, links are counted right, and directories are trees.

// wantTrees holds a graph against what must always be, by its own lists alone.
func wantTrees(t *testing.T, g *Graph) {
	t.Helper()
	kinds, links, parents := map[api.Stamp]int{}, map[api.Stamp]int{}, map[api.Stamp][]api.Stamp{}
	for _, i := range g.Inodes() {
		kinds[i.Id] = i.Kind
	}
	for _, e := range g.Entries() {
		links[e.Ino]++
		if kinds[e.At] != api.Dir || kinds[e.Ino] == 0 {
			t.Fatalf("%v: an entry in or of what isn't there", e)
		}
		if kinds[e.Ino] == api.Dir {
			parents[e.Ino] = append(parents[e.Ino], e.At)
		}
	}
	for _, i := range g.Inodes() {
		if i.Links != links[i.Id] || i.Links > api.MaxLinks {
			t.Fatalf("%v: there are %d entries", i, links[i.Id])
		}
		if len(parents[i.Id]) > 1 {
			t.Fatalf("%v: parents %v", i, parents[i.Id])
		}
		// No way up is longer than there are directories, and none ends where it began.
		at := i.Id
		for n := 0; len(parents[at]) > 0; n++ {
			at = parents[at][0]
			if at == i.Id || n > api.MaxInodes {
				t.Fatalf("%v is under itself", i)
			}
		}
	}
	if i, there := g.Get(api.Stamp{}); !there || i.Kind != api.Dir || i.Links != 0 {
		t.Fatalf("the root: %v, %t", i, there)
	}
	if len(kinds) > api.MaxInodes {
		t.Fatalf("%d inodes", len(kinds))
	}
}

// shortDeeds are some of each kind, of three inodes and the root.
func shortDeeds() []func(r row) {
	var l []func(r row)
	for n := 1; n <= 3; n++ {
		l = append(l, func(r row) { r.drop(id(n)) }, func(r row) { r.make(id(n), 1+n/3) })
	}
	for _, e := range []struct {
		at   int
		name string
		ino  int
	}{{0, "a", 1}, {0, "a", 2}, {1, "a", 2}, {2, "a", 1}, {1, "b", 3}, {2, "b", 3}, {1, "c", 1}, {2, "c", 0}, {3, "a", 1}} {
		l = append(l, func(r row) { r.tie(id(e.at), e.name, id(e.ino)) })
	}
	for _, at := range []int{0, 1, 2} {
		l = append(l, func(r row) { r.untie(id(at), "a") })
	}
	return append(l, func(r row) { r.set(id(1), 5, "") }, func(r row) { r.untie(id(1), "b") })
}

// tryAll does each row of so many deeds, each to a copy of the graph that the ones ahead of it made.
func tryAll(r row, many int) {
	wantLists(r.t, r.g, r.p)
	if many == 0 {
		return
	}
	for _, do := range shortDeeds() {
		c := r.copy()
		do(c)
		tryAll(c, many-1)
	}
	wantLists(r.t, r.g, r.p)
}

func TestAllShortRows(t *testing.T) {
	tryAll(begun(t), 3)
	r := begun(t)
	for n := 1; n <= 3; n++ {
		wantOK(t, r.make(id(n), 1+n/3))
	}
	tryAll(r, 3)
	wantOK(t, r.tie(id(0), "a", id(1)))
	wantOK(t, r.tie(id(1), "a", id(2)))
	wantOK(t, r.tie(id(2), "b", id(3)))
	tryAll(r, 3)
}

// deed does what some numbers say; some of it may not be.
func deed(r row, what, a, b, c int) {
	names := []string{"a", "b", "aa", "ab", "c", "d", "12345678", "\xff", "", "..", "123456789"}
	switch what % 8 {
	case 0, 1:
		r.make(id(a%48), (b+10)%11/3)
	case 2, 3, 4:
		r.tie(id(a%48), names[b%len(names)], id(c%48))
	case 5:
		r.untie(id(a%48), names[b%len(names)])
	case 6:
		r.drop(id(a % 48))
	case 7:
		r.set(id(a%48), b, names[c%len(names)])
	}
}

func TestLongRows(t *testing.T) {
	random := rand.New(rand.NewPCG(9, 5))
	for range 60 {
		r := begun(t)
		// Fewer inodes in some rows, so that what is tied meets more often.
		many := 3 + random.IntN(46)
		for n := range 500 {
			deed(r, random.IntN(8), random.IntN(many), random.IntN(11), random.IntN(many))
			if n%10 == 0 {
				wantTrees(t, r.g)
				wantLists(t, r.g, r.p)
			}
			if n%100 == 99 {
				r.want()
			}
		}
	}
}

func TestLongRowsOfDirectoriesThatMove(t *testing.T) {
	random := rand.New(rand.NewPCG(9, 6))
	for range 40 {
		r := begun(t)
		for n := 1; n < 12; n++ {
			wantOK(t, r.make(id(n), api.Dir))
		}
		for range 400 {
			a, b := id(random.IntN(12)), id(random.IntN(12))
			if up, there := r.g.Parent(a); there && random.IntN(2) == 0 {
				r.untie(up, "d"+strconv.Itoa(int(a.Time)))
			}
			under := r.p.under(b, a)
			e := r.tie(b, "d"+strconv.Itoa(int(a.Time)), a)
			if under && e == api.OK {
				t.Fatalf("%v was tied in %v, below it", a, b)
			}
			wantTrees(t, r.g)
		}
		r.want()
	}
}

// P1: whatever comes, each call ends, and none panics.

func FuzzGraph(f *testing.F) {
	f.Add([]byte{})
	f.Add([]byte{0, 1, 3, 0, 2, 0, 0, 1, 2, 1, 0, 0})
	f.Add([]byte{0, 1, 3, 0, 0, 2, 3, 0, 2, 1, 0, 2, 2, 2, 0, 1, 5, 1, 0, 0, 6, 2, 0, 0})
	f.Fuzz(func(t *testing.T, b []byte) {
		r := begun(t)
		for ; len(b) >= 4; b = b[4:] {
			deed(r, int(b[0]), int(b[1]), int(b[2]), int(b[3]))
		}
		wantTrees(t, r.g)
		wantLists(t, r.g, r.p)
	})
}
