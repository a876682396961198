package audit

import (
	"math"
	"math/rand/v2"
	"reflect"
	"slices"
	"strconv"
	"strings"
	"testing"

	"thimble/api"
	"thimble/graph"
)

// listed is a list of inodes, and one of entries.
type listed struct {
	n []api.Inode
	e []api.Entry
}

// What the chapter's words say, with lists alone, in which all is looked for again and again.

func (l listed) first(id api.Stamp) (api.Inode, bool) {
	for _, i := range l.n {
		if i.Id == id {
			return i, true
		}
	}
	return api.Inode{}, false
}

func (l listed) isDir(id api.Stamp) bool {
	i, there := l.first(id)
	return there && i.Kind == 1
}

func (l listed) has(id api.Stamp) bool {
	_, there := l.first(id)
	return there
}

func (l listed) entriesOf(id api.Stamp) int {
	many := 0
	for _, e := range l.e {
		if e.Ino == id {
			many++
		}
	}
	return many
}

func aheadStamp(a, b api.Stamp) bool {
	return a.Time < b.Time || a.Time == b.Time && a.Rep < b.Rep
}

func aheadName(a, b string) bool {
	for i := range len(a) {
		if i == len(b) || a[i] > b[i] {
			return false
		}
		if a[i] < b[i] {
			return true
		}
	}
	return len(a) < len(b)
}

func aheadInode(a, b api.Inode) bool {
	return aheadStamp(a.Id, b.Id)
}

func aheadEntry(a, b api.Entry) bool {
	return aheadStamp(a.At, b.At) || a.At == b.At && aheadName(a.Name, b.Name)
}

func isStamp(s api.Stamp) bool {
	return s == api.Stamp{} || s.Time >= 1 && s.Time <= 1<<30 && s.Rep >= 0 && s.Rep <= 7
}

func isName(s string) bool {
	return s != "" && len(s) <= 8 && s != "." && s != ".." && !strings.ContainsAny(s, "/\x00")
}

// reach goes through all entries again, as long as one of them leads to what wasn't reached.
func (l listed) reach() []api.Stamp {
	var found []api.Stamp
	if l.has(api.Stamp{}) {
		found = append(found, api.Stamp{})
	}
	for more := true; more; {
		more = false
		for _, e := range l.e {
			if slices.Contains(found, e.At) && l.isDir(e.At) && l.has(e.Ino) && !slices.Contains(found, e.Ino) {
				found = append(found, e.Ino)
				more = true
			}
		}
	}
	var rising []api.Stamp
	for len(found) > 0 {
		least := 0
		for i := range found {
			if aheadStamp(found[i], found[least]) {
				least = i
			}
		}
		rising = append(rising, found[least])
		found = slices.Delete(found, least, least+1)
	}
	return rising
}

func (l listed) order() bool {
	for i := 1; i < len(l.n); i++ {
		if !aheadInode(l.n[i-1], l.n[i]) {
			return true
		}
	}
	for i := 1; i < len(l.e); i++ {
		if !aheadEntry(l.e[i-1], l.e[i]) {
			return true
		}
	}
	return false
}

func (l listed) shape() bool {
	wrong := !l.isDir(api.Stamp{})
	for _, i := range l.n {
		wrong = wrong || !isStamp(i.Id) || i.Kind != 1 && i.Kind != 2 && i.Kind != 3
	}
	for _, e := range l.e {
		wrong = wrong || !isName(e.Name)
	}
	return wrong
}

func (l listed) lost() bool {
	for _, e := range l.e {
		if !l.isDir(e.At) || !l.has(e.Ino) {
			return true
		}
	}
	return false
}

func (l listed) count() bool {
	for _, i := range l.n {
		if i.Links != l.entriesOf(i.Id) {
			return true
		}
	}
	return false
}

func (l listed) many() bool {
	for _, i := range l.n {
		entries, isRoot := l.entriesOf(i.Id), i.Id == api.Stamp{}
		if !isRoot && entries == 0 || i.Kind == 1 && entries > 1 || isRoot && entries > 0 || entries > 6 {
			return true
		}
	}
	return false
}

func (l listed) apart() bool {
	found := l.reach()
	for _, i := range l.n {
		if !slices.Contains(found, i.Id) {
			return true
		}
	}
	return false
}

func (l listed) bounds() bool {
	wrong := len(l.n) > 40
	for _, i := range l.n {
		size := len(i.Data)
		wrong = wrong || i.Mode < 0 || i.Mode > 4095 || i.Kind == 1 && size > 0 || i.Kind == 2 && size > 64 || i.Kind == 3 && (size < 1 || size > 32)
	}
	return wrong
}

func (l listed) check() []int {
	var faults []int
	for i, wrong := range []bool{l.order(), l.shape(), l.lost(), l.count(), l.many(), l.apart(), l.bounds()} {
		if wrong {
			faults = append(faults, i+1)
		}
	}
	return faults
}

// id is a stamp of a number: none the root's, and each other one that of a replica of its own, as far as there are so many.
func id(n int) api.Stamp {
	return api.Stamp{Time: int64(n), Rep: n % 8}
}

// no is a stamp that may be, and that is the last one of all, and no inode's.
func no() api.Stamp {
	return api.Stamp{Time: 1 << 30, Rep: 7}
}

func rootDir() api.Inode {
	return api.Inode{Kind: api.Dir}
}

func dir(n int) api.Inode {
	return api.Inode{Id: id(n), Kind: api.Dir}
}

func file(n int) api.Inode {
	return api.Inode{Id: id(n), Kind: api.File}
}

func sym(n int) api.Inode {
	return api.Inode{Id: id(n), Kind: api.Sym, Data: "x"}
}

func in(at int, name string, ino int) api.Entry {
	return api.Entry{At: id(at), Name: name, Ino: id(ino)}
}

func (l listed) copy() listed {
	return listed{slices.Clone(l.n), slices.Clone(l.e)}
}

// put puts a thing into a list whose things rise, behind those that are alike.
func put[T any](l []T, x T, ahead func(a, b T) bool) []T {
	at := 0
	for at < len(l) && !ahead(x, l[at]) {
		at++
	}
	return slices.Insert(slices.Clone(l), at, x)
}

// made has these inodes, too, in order.
func (l listed) made(inodes ...api.Inode) listed {
	l = l.copy()
	for _, i := range inodes {
		l.n = put(l.n, i, aheadInode)
	}
	return l
}

// entered has these entries, too, in order; nobody counts them.
func (l listed) entered(entries ...api.Entry) listed {
	l = l.copy()
	for _, e := range entries {
		l.e = put(l.e, e, aheadEntry)
	}
	return l
}

// tied has these entries, too, in order; each inode that one is of has one link more.
func (l listed) tied(entries ...api.Entry) listed {
	for _, e := range entries {
		l = l.entered(e).turned(e.Ino, func(i *api.Inode) { i.Links++ })
	}
	return l
}

// turned has each inode with that Id turned.
func (l listed) turned(id api.Stamp, turn func(i *api.Inode)) listed {
	l = l.copy()
	for k := range l.n {
		if l.n[k].Id == id {
			turn(&l.n[k])
		}
	}
	return l
}

// swapped has two inodes, and two entries, at each other's places.
func (l listed) swapped(n1, n2, e1, e2 int) listed {
	l = l.copy()
	if n1 != n2 {
		l.n[n1], l.n[n2] = l.n[n2], l.n[n1]
	}
	if e1 != e2 {
		l.e[e1], l.e[e2] = l.e[e2], l.e[e1]
	}
	return l
}

// withoutInode has one inode less.
func (l listed) withoutInode(k int) listed {
	l = l.copy()
	l.n = slices.Delete(l.n, k, k+1)
	return l
}

// withoutEntry has one entry less.
func (l listed) withoutEntry(k int) listed {
	l = l.copy()
	l.e = slices.Delete(l.e, k, k+1)
	return l
}

// alone is the root alone.
func alone() listed {
	return listed{n: []api.Inode{rootDir()}}
}

// laid is a file system of all sorts; of its inodes those of 9 and above are none.
func laid() listed {
	l := listed{n: []api.Inode{
		rootDir(),
		{Id: id(1), Kind: api.Dir, Links: 1, Mode: 7},
		{Id: id(2), Kind: api.Dir, Links: 1},
		{Id: id(3), Kind: api.Dir, Links: 1, Mode: 4095},
		{Id: id(4), Kind: api.Dir, Links: 1},
		{Id: id(5), Kind: api.File, Links: 2, Mode: 420, Data: "text"},
		{Id: id(6), Kind: api.File, Links: 6},
		{Id: id(7), Kind: api.Sym, Links: 1, Mode: 511, Data: "/a/b"},
		{Id: id(8), Kind: api.File, Links: 1, Data: strings.Repeat("\x00", 64)},
	}}
	l.e = []api.Entry{
		in(0, "6", 6), in(0, "a", 1), in(0, "empty", 4), in(0, "f", 5),
		in(1, "6", 6), in(1, "61", 6), in(1, "b", 2),
		in(2, "6", 6), in(2, "c", 3), in(2, "f", 5), in(2, "s", 7),
		in(3, "6", 6), in(3, "62", 6), in(3, "g", 8),
	}
	return l
}

// chain is a directory in another one, so many, in the root.
func chain(many int) listed {
	l := alone()
	for n := 1; n <= many; n++ {
		i := dir(n)
		i.Links = 1
		l.n = append(l.n, i)
		l.e = append(l.e, in(n-1, "d", n))
	}
	return l
}

// crowd is the root, and so many files in it, each with one name.
func crowd(files int) listed {
	l := alone()
	for n := 1; n <= files; n++ {
		l = l.made(file(n)).tied(in(0, strconv.Itoa(n), n))
	}
	return l
}

// badStamps may not be.
func badStamps() []api.Stamp {
	return []api.Stamp{
		{Time: 0, Rep: 1}, {Time: 0, Rep: 7}, {Time: 0, Rep: -1}, {Time: -1, Rep: 0}, {Time: -1, Rep: 3}, {Time: 1, Rep: -1}, {Time: 1, Rep: 8}, {Time: 1, Rep: 256}, {Time: 1, Rep: math.MaxInt}, {Time: 1, Rep: math.MinInt},
		{Time: 1<<30 + 1, Rep: 0}, {Time: 1<<30 + 1, Rep: 7}, {Time: 1 << 30, Rep: 8}, {Time: 1 << 32, Rep: 0}, {Time: 1<<32 + 1, Rep: 1}, {Time: math.MaxInt64, Rep: 0}, {Time: math.MinInt64, Rep: 0}, {Time: math.MinInt64, Rep: math.MinInt},
	}
}

// badNames are none.
func badNames() []string {
	return []string{"", ".", "..", "/", "a/b", "/a", "a/", "\x00", "a\x00", "\x00a", "123456789", "a name that is far too long"}
}

// noKinds are kinds of no inode.
func noKinds() []int {
	return []int{0, 4, -1, -2, -3, 5, 6, 10, 255, 256, 257, 258, 1 << 32, 1<<32 + 1, 1<<32 + 2, math.MaxInt, math.MinInt}
}

// same holds lists against each other; one that is nil is as an empty one.
func same[T comparable](t *testing.T, what string, got, want []T) {
	t.Helper()
	if !slices.Equal(got, want) {
		t.Fatalf("%s: %v; want %v", what, got, want)
	}
}

// asked asks Check, Fine and Reach of lists, and whether these stay as they are.
func asked(t *testing.T, l listed) ([]int, []api.Stamp) {
	t.Helper()
	was := l.copy()
	faults, reached := Check(l.n, l.e), Reach(l.n, l.e)
	if fine := Fine(l.n, l.e); fine != (len(faults) == 0) {
		t.Fatalf("Fine: %t; but Check: %v", fine, faults)
	}
	same(t, "inodes handed in", l.n, was.n)
	same(t, "entries handed in", l.e, was.e)
	return faults, reached
}

// wantFaults holds what is told against the faults that there are, and against what lists alone tell.
func wantFaults(t *testing.T, what string, l listed, want ...int) {
	t.Helper()
	faults, reached := asked(t, l)
	same(t, what+": Check", faults, want)
	same(t, what+": as lists tell", l.check(), want)
	same(t, what+": Reach", reached, l.reach())
}

// wantPlain holds what is told against what lists alone tell.
func wantPlain(t *testing.T, l listed) {
	t.Helper()
	faults, reached := asked(t, l)
	if want := l.check(); !slices.Equal(faults, want) {
		t.Fatalf("Check of %v, %v: %v; want %v", l.n, l.e, faults, want)
	}
	if want := l.reach(); !slices.Equal(reached, want) {
		t.Fatalf("Reach of %v, %v: %v; want %v", l.n, l.e, reached, want)
	}
}

// wantReach holds what is reached against the inodes of these numbers.
func wantReach(t *testing.T, what string, l listed, want ...int) {
	t.Helper()
	var ids []api.Stamp
	for _, n := range want {
		ids = append(ids, id(n))
	}
	_, reached := asked(t, l)
	same(t, what, reached, ids)
	same(t, what+": as lists tell", l.reach(), ids)
}

func TestTheFaults(t *testing.T) {
	same(t, "faults", []int{Order, Shape, Lost, Count, Many, Apart, Bounds}, []int{1, 2, 3, 4, 5, 6, 7})
}

func TestTheExample(t *testing.T) {
	wantFaults(t, "the root alone", alone())
	wantFaults(t, "a file without an entry", alone().made(file(1)), Many, Apart)
}

// P10.1: what is reached.

func TestReachOfNothing(t *testing.T) {
	wantReach(t, "nothing", listed{})
	wantReach(t, "empty lists", listed{[]api.Inode{}, []api.Entry{}})
	wantReach(t, "an entry alone", listed{e: []api.Entry{in(0, "a", 1), in(0, "r", 0)}})
	wantReach(t, "the root alone", alone(), 0)
	wantReach(t, "the root in itself", alone().entered(in(0, "r", 0)), 0)
}

func TestReachWithoutARoot(t *testing.T) {
	l := laid()
	wantReach(t, "all", l, 0, 1, 2, 3, 4, 5, 6, 7, 8)
	wantReach(t, "without the root", l.withoutInode(0))
	wantReach(t, "with a stamp like the root's", listed{n: []api.Inode{{Id: api.Stamp{Rep: 1}, Kind: api.Dir}, file(1)}, e: []api.Entry{{At: api.Stamp{Rep: 1}, Name: "a", Ino: id(1)}, in(0, "a", 1)}})
}

func TestReachOfARootThatIsNoDirectory(t *testing.T) {
	for _, kind := range append(noKinds(), api.File, api.Sym) {
		wantReach(t, "of the kind "+strconv.Itoa(kind), laid().turned(id(0), func(i *api.Inode) { i.Kind = kind }), 0)
	}
}

func TestReachThroughWhatIsNoDirectory(t *testing.T) {
	for _, kind := range append(noKinds(), api.File, api.Sym) {
		l := laid().turned(id(2), func(i *api.Inode) { i.Kind = kind })
		wantReach(t, "of the kind "+strconv.Itoa(kind), l, 0, 1, 2, 4, 5, 6)
	}
	l := laid().made(file(9), dir(10)).tied(in(5, "x", 9), in(7, "x", 10))
	wantReach(t, "below a file, and a symbolic link", l, 0, 1, 2, 3, 4, 5, 6, 7, 8)
	// What isn't reached that way may be reached by another one.
	wantReach(t, "by another one", l.tied(in(10, "x", 9), in(3, "x", 10)), 0, 1, 2, 3, 4, 5, 6, 7, 8, 9, 10)
}

func TestReachOfWhatIsNoInode(t *testing.T) {
	l := alone().made(file(2), dir(3)).tied(in(0, "a", 1), in(1, "b", 2), in(1, "d", 3), in(3, "r", 0))
	wantReach(t, "through what isn't there", l, 0)
	wantReach(t, "when it is there", l.made(dir(1)), 0, 1, 2, 3)
	wantReach(t, "when it is a file", l.made(file(1)), 0, 1)
	for _, s := range append(badStamps(), no()) {
		entries := []api.Entry{{Name: "a", Ino: s}, {At: s, Name: "b", Ino: id(2)}}
		wantReach(t, "through what isn't there", listed{[]api.Inode{rootDir(), file(2)}, entries}, 0)
	}
}

func TestReachOfEntriesInAnyOrder(t *testing.T) {
	r := rand.New(rand.NewPCG(10, 1))
	for range 60 {
		l := laid().made(dir(9), file(10), dir(11)).tied(in(9, "x", 10), in(9, "y", 11), in(11, "z", 9))
		r.Shuffle(len(l.e), func(i, j int) { l.e[i], l.e[j] = l.e[j], l.e[i] })
		r.Shuffle(len(l.n), func(i, j int) { l.n[i], l.n[j] = l.n[j], l.n[i] })
		wantReach(t, "in any order", l, 0, 1, 2, 3, 4, 5, 6, 7, 8)
	}
}

func TestReachAlongALongWay(t *testing.T) {
	for _, many := range []int{1, 2, 10, 39, 40, 100} {
		l := chain(many)
		var all []int
		for n := range many + 1 {
			all = append(all, n)
		}
		wantReach(t, "down", l, all...)
		slices.Reverse(l.e)
		wantReach(t, "from the end on", l, all...)
		slices.Reverse(l.n)
		wantReach(t, "both from the end on", l, all...)
		// Cut at each place.
		for n := range many {
			wantReach(t, "cut", chain(many).withoutEntry(n), all[:n+1]...)
			wantReach(t, "without an inode", chain(many).withoutInode(n+1), all[:n+1]...)
		}
	}
}

func TestReachInARing(t *testing.T) {
	ring := alone().made(dir(1), dir(2), dir(3), dir(4)).tied(in(1, "a", 2), in(2, "a", 3), in(3, "a", 4), in(4, "a", 1))
	wantReach(t, "a ring", ring, 0)
	for n := 1; n <= 4; n++ {
		wantReach(t, "a ring that is reached", ring.tied(in(0, "a", n)), 0, 1, 2, 3, 4)
		wantReach(t, "a ring through the root", ring.tied(in(n, "r", 0)), 0)
	}
	wantReach(t, "what is in itself", alone().made(dir(1)).tied(in(1, "a", 1)), 0)
	wantReach(t, "what is in itself, and the root", alone().made(dir(1)).tied(in(1, "a", 1), in(0, "a", 1)), 0, 1)
	wantReach(t, "a ring with the root", chain(5).tied(in(5, "r", 0)), 0, 1, 2, 3, 4, 5)
}

func TestReachTellsEachOnce(t *testing.T) {
	l := alone().made(dir(1), dir(1), file(2), file(2), file(2), rootDir(), rootDir())
	wantReach(t, "inodes", l.tied(in(0, "a", 1), in(1, "b", 2)), 0, 1, 2)
	wantReach(t, "entries", l.tied(in(0, "a", 1), in(0, "a", 1), in(1, "b", 2), in(0, "b", 2), in(1, "b", 2), in(1, "c", 1), in(1, "r", 0)), 0, 1, 2)
	wantReach(t, "none of them", l, 0)
}

func TestReachRises(t *testing.T) {
	want := []api.Stamp{{Time: math.MinInt64, Rep: 3}, {Time: -1, Rep: 9}, {Time: 0, Rep: -1}, {}, {Time: 0, Rep: 1}, {Time: 1, Rep: 0}, {Time: 1, Rep: 1}, {Time: 1, Rep: 7}, {Time: 2, Rep: 0}, {Time: 2, Rep: 5}, {Time: 9, Rep: 3}, {Time: 10, Rep: 2}, {Time: 100, Rep: 1}, {Time: 256, Rep: 0}, {Time: 1 << 30, Rep: 7}, {Time: math.MaxInt64, Rep: 0}, {Time: math.MaxInt64, Rep: math.MaxInt}}
	r := rand.New(rand.NewPCG(10, 2))
	for range 100 {
		var l listed
		for _, k := range r.Perm(len(want)) {
			l.n = append(l.n, api.Inode{Id: want[k], Kind: api.Dir})
			// In the root, or below another one that is in it.
			l.e = append(l.e, api.Entry{Name: strconv.Itoa(k), Ino: want[k]}, api.Entry{At: want[k], Name: "x", Ino: want[r.IntN(len(want))]})
		}
		r.Shuffle(len(l.e), func(i, j int) { l.e[i], l.e[j] = l.e[j], l.e[i] })
		_, reached := asked(t, l)
		same(t, "Reach", reached, want)
	}
}

func TestReachAsksNotTheNames(t *testing.T) {
	for _, name := range badNames() {
		wantReach(t, "whatever its name", alone().made(dir(1), file(2)).tied(in(0, name, 1), in(1, name, 2)), 0, 1, 2)
	}
}

// P10.2: each fault.

func TestNothing(t *testing.T) {
	wantFaults(t, "nothing", listed{}, Shape)
	wantFaults(t, "empty lists", listed{[]api.Inode{}, []api.Entry{}}, Shape)
	wantFaults(t, "an entry alone", listed{e: []api.Entry{in(0, "a", 1)}}, Shape, Lost)
	// There is no root that could have it.
	wantFaults(t, "an entry of the root alone", listed{e: []api.Entry{in(0, "r", 0)}}, Shape, Lost)
	wantFaults(t, "the root alone, without entries", listed{[]api.Inode{rootDir()}, []api.Entry{}})
}

func TestFineLists(t *testing.T) {
	for what, l := range fineLists() {
		wantFaults(t, what, l)
		_, reached := asked(t, l)
		var all []api.Stamp
		for _, i := range l.n {
			all = append(all, i.Id)
		}
		same(t, "Reach", reached, all)
	}
}

// fineLists are lists that are fine, at the edges of what may be.
func fineLists() map[string]listed {
	edge := alone().turned(id(0), func(i *api.Inode) { i.Mode = 4095 })
	for k, s := range []api.Stamp{{Time: 1, Rep: 0}, {Time: 1, Rep: 7}, {Time: 1 << 30, Rep: 0}, {Time: 1 << 30, Rep: 7}} {
		edge = edge.made(api.Inode{Id: s, Kind: api.File, Mode: 4095 * (k % 2), Data: strings.Repeat("\xff", 64*(k%2))}).tied(api.Entry{Name: strings.Repeat("\xff", 2*k+2), Ino: s})
	}
	links := alone().made(dir(1), file(2), sym(3))
	links = links.tied(in(0, "d", 1))
	for _, n := range []int{2, 3} {
		for k := range 6 {
			links = links.tied(in(k%2, strconv.Itoa(10*n+k), n))
		}
	}
	far := alone().made(dir(9), dir(5), dir(7), dir(1)).tied(in(0, "z", 9), in(9, "a", 5), in(5, "a", 7), in(7, "a", 1))
	return map[string]listed{"the root alone": alone(), "all sorts": laid(), "one below the other": chain(39), "files": crowd(39), "edges": edge, "six links": links, "later ones above": far, "one directory": chain(1), "one file": crowd(1), "one link": alone().made(sym(1)).tied(in(0, "s", 1))}
}

func TestListsThatGraphTells(t *testing.T) {
	g := graph.New()
	wantFaults(t, "a new one", listed{g.Inodes(), g.Entries()})
	g.Make(id(1), api.Dir)
	wantFaults(t, "a directory that is made", listed{g.Inodes(), g.Entries()}, Many, Apart)
	g.Tie(in(0, "a", 1))
	wantFaults(t, "and tied", listed{g.Inodes(), g.Entries()})
	g.Make(id(2), api.Sym)
	g.Tie(in(1, "s", 2))
	wantFaults(t, "a symbolic link without data", listed{g.Inodes(), g.Entries()}, Bounds)
	g.Set(id(2), 0, "a")
	wantFaults(t, "and with data", listed{g.Inodes(), g.Entries()})
	g.Untie(id(0), "a")
	wantFaults(t, "the directory is untied", listed{g.Inodes(), g.Entries()}, Many, Apart)
	g.Tie(in(0, "b", 1))
	g.Set(id(0), 4096, "")
	wantFaults(t, "a mode that is too great", listed{g.Inodes(), g.Entries()}, Bounds)
}

func TestOrderOfInodes(t *testing.T) {
	l := laid()
	for i := range l.n {
		for j := range i {
			wantFaults(t, "out of order", l.swapped(i, j, 0, 0), Order)
		}
	}
	for _, x := range []struct {
		what   string
		a, b   api.Stamp
		faults []int
	}{
		{"by time", api.Stamp{Time: 2, Rep: 3}, api.Stamp{Time: 1, Rep: 3}, []int{Order}},
		{"by time, whatever the replica", api.Stamp{Time: 2, Rep: 0}, api.Stamp{Time: 1, Rep: 7}, []int{Order}},
		{"by replica", api.Stamp{Time: 5, Rep: 4}, api.Stamp{Time: 5, Rep: 3}, []int{Order}},
		{"by replica, the last ones", api.Stamp{Time: 1 << 30, Rep: 7}, api.Stamp{Time: 1 << 30, Rep: 6}, []int{Order}},
		{"in order by time", api.Stamp{Time: 1, Rep: 7}, api.Stamp{Time: 2, Rep: 0}, nil},
		{"in order by replica", api.Stamp{Time: 5, Rep: 3}, api.Stamp{Time: 5, Rep: 4}, nil},
		{"in order as numbers", api.Stamp{Time: 9, Rep: 0}, api.Stamp{Time: 10, Rep: 0}, nil},
		{"not in order as numbers", api.Stamp{Time: 10, Rep: 0}, api.Stamp{Time: 9, Rep: 0}, []int{Order}},
	} {
		n := []api.Inode{rootDir(), {Id: x.a, Kind: api.File, Links: 1}, {Id: x.b, Kind: api.File, Links: 1}}
		wantFaults(t, x.what, listed{n, []api.Entry{{Name: "a", Ino: x.a}, {Name: "b", Ino: x.b}}}, x.faults...)
	}
	wantFaults(t, "the root behind", crowd(1).swapped(0, 1, 0, 0), Order)
}

func TestOrderOfEntries(t *testing.T) {
	l := laid()
	for i := range l.e {
		for j := range i {
			wantFaults(t, "out of order", l.swapped(0, 0, i, j), Order)
		}
	}
	// By name alone: byte by byte, a begin ahead.
	names := []string{"\x01", "\n", "!", "-", "0", "10", "2", "A", "Z", "a", "a!", "aa", "aaa", "aab", "ab", "b", "\x7f", "\x80", "\xc3\xbc", "\xff", "\xff\xff"}
	for i, a := range names {
		for j, b := range names {
			l := alone().made(file(1), file(2)).turned(id(1), func(i *api.Inode) { i.Links = 1 }).turned(id(2), func(i *api.Inode) { i.Links = 1 })
			// Whichever inode they are of.
			for _, l.e = range [][]api.Entry{{in(0, a, 1), in(0, b, 2)}, {in(0, a, 2), in(0, b, 1)}} {
				if i < j {
					wantFaults(t, "in order", l)
				} else {
					wantFaults(t, strconv.Quote(a)+" ahead of "+strconv.Quote(b), l, Order)
				}
			}
		}
	}
}

func TestOrderOfEntriesByDirectory(t *testing.T) {
	for _, x := range []struct {
		what   string
		a, b   api.Stamp
		faults []int
	}{
		{"by time", api.Stamp{Time: 2, Rep: 3}, api.Stamp{Time: 1, Rep: 3}, []int{Order}},
		{"by time, whatever the replica", api.Stamp{Time: 2, Rep: 0}, api.Stamp{Time: 1, Rep: 7}, []int{Order}},
		{"by replica", api.Stamp{Time: 1, Rep: 4}, api.Stamp{Time: 1, Rep: 3}, []int{Order}},
		{"in order by time", api.Stamp{Time: 1, Rep: 7}, api.Stamp{Time: 2, Rep: 0}, nil},
		{"in order by replica", api.Stamp{Time: 1, Rep: 3}, api.Stamp{Time: 1, Rep: 4}, nil},
	} {
		for _, names := range [][]string{{"x", "y"}, {"y", "x"}, {"x", "x"}} {
			l := alone().made(api.Inode{Id: x.a, Kind: api.Dir}, api.Inode{Id: x.b, Kind: api.Dir}, file(20), file(21)).tied(api.Entry{Name: "a", Ino: x.a}, api.Entry{Name: "b", Ino: x.b})
			l = l.tied(api.Entry{At: x.a, Name: names[0], Ino: id(20)}, api.Entry{At: x.b, Name: names[1], Ino: id(21)})
			l.e = append(l.e[:2:2], api.Entry{At: x.a, Name: names[0], Ino: id(20)}, api.Entry{At: x.b, Name: names[1], Ino: id(21)})
			wantFaults(t, x.what, l, x.faults...)
		}
	}
}

func TestOrderOfTwiceTheSame(t *testing.T) {
	l := laid()
	for k := range l.n {
		c := l.copy()
		c.n = slices.Insert(c.n, k, c.n[k])
		wantFaults(t, "an inode twice", c, Order)
		c.n = slices.Insert(c.n, k, c.n[k])
		wantFaults(t, "an inode three times", c, Order)
	}
	for k, e := range l.e {
		c := l.copy()
		c.e = slices.Insert(c.e, k, e)
		if e.Ino == id(5) || e.Ino == id(7) || e.Ino == id(8) {
			wantFaults(t, "an entry twice", c, Order, Count)
			wantFaults(t, "an entry twice, and counted", c.turned(e.Ino, func(i *api.Inode) { i.Links++ }), Order)
		} else {
			wantFaults(t, "an entry twice", c, Order, Count, Many)
		}
		// The same place, of another inode.
		other := id(5)
		if e.Ino == other {
			other = id(8)
		}
		c.e[k].Ino = other
		wantFaults(t, "a place twice", c.turned(other, func(i *api.Inode) { i.Links++ }), Order)
	}
}

func TestShapeWithoutARoot(t *testing.T) {
	wantFaults(t, "all sorts", laid().withoutInode(0), Shape, Lost, Apart)
	wantFaults(t, "a file", listed{n: []api.Inode{file(1)}}, Shape, Many, Apart)
	for _, s := range badStamps() {
		// One that is nearly the root's is another one.
		wantFaults(t, "another stamp", listed{n: []api.Inode{{Id: s, Kind: api.Dir}}}, Shape, Many, Apart)
	}
}

func TestShapeOfTheRoot(t *testing.T) {
	for _, kind := range append(noKinds(), api.File) {
		wantFaults(t, "of the kind "+strconv.Itoa(kind), listed{n: []api.Inode{{Kind: kind}}}, Shape)
		wantFaults(t, "of the kind "+strconv.Itoa(kind), laid().turned(id(0), func(i *api.Inode) { i.Kind = kind }), Shape, Lost, Apart)
	}
	wantFaults(t, "a symbolic link", listed{n: []api.Inode{{Kind: api.Sym, Data: "x"}}}, Shape)
	wantFaults(t, "a symbolic link to nothing", listed{n: []api.Inode{{Kind: api.Sym}}}, Shape, Bounds)
}

func TestShapeOfIds(t *testing.T) {
	for _, s := range badStamps() {
		for _, i := range []api.Inode{{Kind: api.Dir}, {Kind: api.File}, {Kind: api.Sym, Data: "x"}} {
			i.Id = s
			wantFaults(t, "a stamp that may not be", laid().made(i).tied(api.Entry{Name: "new", Ino: s}), Shape)
		}
		wantFaults(t, "and something in it", laid().made(api.Inode{Id: s, Kind: api.Dir}, file(9)).tied(api.Entry{Name: "new", Ino: s}, api.Entry{At: s, Name: "x", Ino: id(9)}), Shape)
	}
	for _, s := range []api.Stamp{{Time: 1, Rep: 0}, {Time: 1, Rep: 7}, {Time: 300, Rep: 5}, {Time: 1 << 30, Rep: 0}, {Time: 1 << 30, Rep: 7}} {
		wantFaults(t, "a stamp that may be", laid().made(api.Inode{Id: s, Kind: api.File}).tied(api.Entry{Name: "new", Ino: s}))
	}
}

func TestShapeOfKinds(t *testing.T) {
	for n := 4; n <= 8; n++ {
		for _, kind := range noKinds() {
			wantFaults(t, "of the kind "+strconv.Itoa(kind), laid().turned(id(n), func(i *api.Inode) { i.Kind = kind }), Shape)
		}
	}
	for _, kind := range []int{api.Dir, api.File, api.Sym} {
		l := laid().made(api.Inode{Id: id(9), Kind: kind, Data: []string{"", "", "", "x"}[kind]}).tied(in(4, "x", 9))
		wantFaults(t, "of the kind "+strconv.Itoa(kind), l)
	}
	wantFaults(t, "with something in it", laid().turned(id(3), func(i *api.Inode) { i.Kind = 0 }), Shape, Lost, Apart)
}

func TestShapeOfNames(t *testing.T) {
	for _, name := range badNames() {
		for _, at := range []int{0, 1, 3} {
			wantFaults(t, strconv.Quote(name), laid().made(file(9)).tied(in(at, name, 9)), Shape)
		}
	}
	for _, name := range []string{"x", "12345678", "...", "\xff\xfe", "\n", " ", "\\", "..a"} {
		wantFaults(t, strconv.Quote(name), laid().made(file(9)).tied(in(3, name, 9)))
	}
}

func TestLostAt(t *testing.T) {
	l := laid()
	for _, s := range append(badStamps(), no(), id(9), api.Stamp{Time: 1}, api.Stamp{Time: 1, Rep: 2}) {
		// Of Ids that may not be, where no inode has them, Shape doesn't tell.
		wantFaults(t, "in what isn't there", l.tied(api.Entry{At: s, Name: "x", Ino: id(5)}), Lost)
		wantFaults(t, "both aren't there", l.tied(api.Entry{At: s, Name: "x", Ino: s}), Lost)
	}
	for n := 5; n <= 8; n++ {
		wantFaults(t, "in what is no directory", l.tied(in(n, "x", 5)), Lost)
		wantFaults(t, "and in itself", l.made(file(9)).tied(in(9, "x", 9), in(0, "x", 9)), Lost)
	}
	// In a directory that isn't reached nothing is lost.
	wantFaults(t, "in a directory that isn't reached", l.made(dir(9)).tied(in(9, "x", 5)), Many, Apart)
}

func TestLostIno(t *testing.T) {
	for _, s := range append(badStamps(), no(), id(9), api.Stamp{Time: 1}, api.Stamp{Time: 1, Rep: 2}) {
		for n := range 5 {
			wantFaults(t, "of what isn't there", laid().tied(api.Entry{At: id(n), Name: "x", Ino: s}), Lost)
		}
	}
	// The only one, the first one, and the last one.
	wantFaults(t, "alone", alone().tied(in(0, "x", 9)), Lost)
	wantFaults(t, "the first one", laid().tied(in(0, "0", 9)), Lost)
	wantFaults(t, "the last one", laid().tied(in(4, "z", 9)), Lost)
	wantFaults(t, "more than one", laid().tied(in(0, "0", 9), in(0, "1", 9), in(4, "z", 9)), Lost)
}

func TestCount(t *testing.T) {
	l := laid()
	for k, i := range l.n {
		for _, links := range []int{i.Links - 1, i.Links + 1, i.Links + 7, -i.Links - 1, i.Links + 1<<32, math.MaxInt, math.MinInt} {
			c := l.copy()
			c.n[k].Links = links
			// How many entries there are tells Many, and not the number of links.
			wantFaults(t, strconv.Itoa(links)+" links", c, Count)
		}
	}
	wantFaults(t, "the root alone, with a link", listed{n: []api.Inode{{Kind: api.Dir, Links: 1}}}, Count)
	wantFaults(t, "two that make up for each other", l.turned(id(5), func(i *api.Inode) { i.Links++ }).turned(id(6), func(i *api.Inode) { i.Links-- }), Count)
}

func TestCountOfEntries(t *testing.T) {
	l := laid()
	for _, n := range []int{5, 7, 8} {
		wantFaults(t, "an entry more", l.entered(in(4, "x", n)), Count)
	}
	wantFaults(t, "one of an inode without links", l.made(file(9)).entered(in(4, "x", 9)), Count)
	for k, e := range l.e {
		if e.Ino == id(5) || e.Ino == id(6) {
			wantFaults(t, "an entry less", l.withoutEntry(k), Count)
		}
	}
	// An entry that is lost is one, too.
	wantFaults(t, "one in what isn't there", l.entered(in(9, "x", 5)), Lost, Count)
	wantFaults(t, "one in what isn't there, counted", l.tied(in(9, "x", 5)), Lost)
	wantFaults(t, "one of what isn't there", l.entered(in(4, "x", 9)), Lost)
}

func TestManyWithoutAnEntry(t *testing.T) {
	for _, i := range []api.Inode{dir(9), file(9), sym(9)} {
		for what, l := range map[string]listed{"the root": alone(), "all sorts": laid()} {
			wantFaults(t, what, l.made(i), Many, Apart)
			// Links alone lead nowhere.
			i.Links = 1
			wantFaults(t, what+", with a link", l.made(i), Count, Many, Apart)
			i.Links = 0
		}
	}
	for k, e := range laid().e {
		if e.Ino == id(4) || e.Ino == id(7) || e.Ino == id(8) {
			wantFaults(t, "the only entry less", laid().withoutEntry(k).turned(e.Ino, func(i *api.Inode) { i.Links-- }), Many, Apart)
		}
	}
	// An inode of no kind, too; one that is another's entry isn't its.
	wantFaults(t, "of no kind", laid().made(api.Inode{Id: id(9)}), Shape, Many, Apart)
	wantFaults(t, "with something in it", laid().made(dir(9), file(10)).tied(in(9, "x", 10)), Many, Apart)
}

func TestManyOfDirectories(t *testing.T) {
	for n := 1; n <= 4; n++ {
		for at := range 5 {
			// Also in itself, and below itself.
			l := laid().tied(in(at, "x", n))
			wantFaults(t, "two", l, Many)
			wantFaults(t, "three", l.tied(in(0, "y", n)), Many)
			wantFaults(t, "seven", l.tied(in(0, "y", n), in(0, "z", n), in(1, "x1", n), in(1, "y", n), in(1, "z", n)), Many)
		}
	}
}

func TestManyOfTheRoot(t *testing.T) {
	wantFaults(t, "in itself", alone().tied(in(0, "r", 0)), Many)
	wantFaults(t, "in itself, twice", alone().tied(in(0, "r", 0), in(0, "s", 0)), Many)
	for at := range 5 {
		wantFaults(t, "one", laid().tied(in(at, "r", 0)), Many)
		wantFaults(t, "not counted", laid().entered(in(at, "r", 0)), Count, Many)
	}
	// As another inode it could have six.
	wantFaults(t, "that is a file", listed{n: []api.Inode{{Kind: api.File}}}.tied(in(0, "r", 0)), Shape, Lost, Many)
	wantFaults(t, "in what isn't there", alone().tied(in(9, "r", 0)), Lost, Many)
}

func TestManyOfOthers(t *testing.T) {
	for _, i := range []api.Inode{file(9), sym(9), {Id: id(9)}, {Id: id(9), Kind: 4}} {
		var shape []int
		if i.Kind != api.File && i.Kind != api.Sym {
			shape = append(shape, Shape)
		}
		l := laid().made(i)
		for k := 1; k <= 6; k++ {
			l = l.tied(in(k%5, "x"+strconv.Itoa(k), 9))
			wantFaults(t, strconv.Itoa(k), l, shape...)
		}
		wantFaults(t, "seven", l.tied(in(4, "x7", 9)), append(shape, Many)...)
		wantFaults(t, "eight", l.tied(in(4, "x7", 9), in(4, "x8", 9)), append(shape, Many)...)
		// It's the entries that are asked, and not the number of links.
		wantFaults(t, "seven, of six links", l.entered(in(4, "x7", 9)), append(slices.Clone(shape), Count, Many)...)
		wantFaults(t, "six, of seven links", l.turned(id(9), func(i *api.Inode) { i.Links = 7 }), append(shape, Count)...)
	}
}

func TestApart(t *testing.T) {
	for _, l := range []listed{alone(), laid()} {
		wantFaults(t, "two that have each other", l.made(dir(11), dir(12)).tied(in(11, "x", 12), in(12, "x", 11)), Apart)
		wantFaults(t, "one that is in itself", l.made(dir(11)).tied(in(11, "x", 11)), Apart)
		three := l.made(dir(11), dir(12), dir(13)).tied(in(11, "x", 12), in(12, "x", 13), in(13, "x", 11))
		wantFaults(t, "three", three, Apart)
		wantFaults(t, "a file below", three.made(file(14)).tied(in(12, "f", 14)), Apart)
		wantFaults(t, "a file below, and in the root", three.made(file(14)).tied(in(12, "f", 14), in(0, "fx", 14)), Apart)
		wantFaults(t, "a directory below, with a file", three.made(dir(14), file(15)).tied(in(12, "d", 14), in(14, "f", 15)), Apart)
		wantFaults(t, "a file below one that isn't reached", l.made(dir(11), file(12)).tied(in(11, "f", 12)), Many, Apart)
		wantFaults(t, "below a file", l.made(file(11), file(12)).tied(in(0, "fx", 11), in(11, "f", 12)), Lost, Apart)
		wantFaults(t, "below what isn't there", l.made(file(12)).tied(in(11, "f", 12)), Lost, Apart)
		wantFaults(t, "when the ring is reached", three.tied(in(0, "r", 11)), Many)
	}
}

func TestBoundsOfHowMany(t *testing.T) {
	for _, files := range []int{38, 39} {
		wantFaults(t, "as many as may be", crowd(files))
		wantFaults(t, "as many as may be", chain(files))
	}
	for _, files := range []int{40, 41, 79, 300} {
		wantFaults(t, "too many", crowd(files), Bounds)
	}
	for _, dirs := range []int{40, 41, 100} {
		wantFaults(t, "too many", chain(dirs), Bounds)
	}
	// Those that stand there twice are two.
	l := crowd(39)
	l.n = append(l.n, l.n[39])
	wantFaults(t, "41, of which two are alike", l, Order, Bounds)
	wantFaults(t, "40, of which two are alike", listed{l.n[1:], l.e}, Order, Shape, Lost, Apart)
	// Of entries there may be more.
	l = alone()
	for n := 1; n < 40; n++ {
		l = l.made(file(n))
		for k := range 6 {
			l = l.tied(in(0, strconv.Itoa(10*n+k), n))
		}
	}
	wantFaults(t, "234 entries", l)
}

func TestBoundsOfModes(t *testing.T) {
	l := laid()
	for k := range l.n {
		c := l.copy()
		for _, c.n[k].Mode = range []int{0, 1, 420, 511, 4094, 4095} {
			wantFaults(t, "a mode that may be", c)
		}
		for _, c.n[k].Mode = range []int{-1, -2, -4095, 4096, 4097, 8191, 65536, 1 << 32, math.MaxInt, math.MinInt} {
			wantFaults(t, "a mode that may not be", c, Bounds)
		}
		c.n[k].Kind = 4
		if k > 3 {
			wantFaults(t, "one of no kind", c, Shape, Bounds)
		}
	}
}

func TestBoundsOfData(t *testing.T) {
	for _, x := range []struct {
		what        string
		kind        int
		fine, wrong []int
	}{
		{"a directory", api.Dir, []int{0}, []int{1, 2, 32, 64, 65}},
		{"a file", api.File, []int{0, 1, 32, 33, 63, 64}, []int{65, 66, 128, 1000}},
		{"a symbolic link", api.Sym, []int{1, 2, 31, 32}, []int{0, 33, 34, 64, 65, 1000}},
	} {
		for _, data := range []string{"x", "\x00", "/", "\xff"} {
			for _, size := range x.fine {
				wantFaults(t, x.what, laid().made(api.Inode{Id: id(9), Kind: x.kind, Data: strings.Repeat(data, size)}).tied(in(4, "x", 9)))
			}
			for _, size := range x.wrong {
				wantFaults(t, x.what, laid().made(api.Inode{Id: id(9), Kind: x.kind, Data: strings.Repeat(data, size)}).tied(in(4, "x", 9)), Bounds)
			}
		}
	}
	wantFaults(t, "the root", listed{n: []api.Inode{{Kind: api.Dir, Data: "x"}}}, Bounds)
	// It's bytes that are counted.
	for _, x := range []struct{ kind, fine int }{{api.File, 32}, {api.Sym, 16}} {
		i := api.Inode{Id: id(9), Kind: x.kind, Data: strings.Repeat("ü", x.fine)}
		wantFaults(t, "letters of two bytes", laid().made(i).tied(in(4, "x", 9)))
		i.Data += "ü"
		wantFaults(t, "letters of two bytes", laid().made(i).tied(in(4, "x", 9)), Bounds)
	}
	// What is of no kind may have any.
	for _, kind := range []int{0, 4, -1} {
		for _, size := range []int{0, 1, 33, 65, 1000} {
			wantFaults(t, "of no kind", laid().made(api.Inode{Id: id(9), Kind: kind, Data: strings.Repeat("x", size)}).tied(in(4, "x", 9)), Shape)
		}
	}
}

// Where an Id is looked up, the first inode with it tells; all else is asked of each.

func TestTheRootTwice(t *testing.T) {
	rootFile := api.Inode{Kind: api.File}
	l := laid().withoutInode(0)
	behind := func(first ...api.Inode) listed { return listed{append(first, l.n...), l.e} }
	wantFaults(t, "a directory ahead of a file", behind(rootDir(), rootFile), Order)
	wantFaults(t, "a file ahead of a directory", behind(rootFile, rootDir()), Order, Shape, Lost, Apart)
	wantFaults(t, "a directory ahead of one of no kind", behind(rootDir(), api.Inode{Kind: 4}), Order, Shape)
	wantFaults(t, "a directory with data behind", behind(rootDir(), api.Inode{Kind: api.Dir, Data: "x"}), Order, Bounds)
	wantFaults(t, "one with a link behind", behind(rootDir(), api.Inode{Kind: api.Dir, Links: 1}), Order, Count)
	// A directory far behind; the first one tells all the same.
	wantFaults(t, "a directory at the end", listed{append(append([]api.Inode{rootFile}, l.n...), rootDir()), l.e}, Order, Shape, Lost, Apart)
	wantFaults(t, "a file at the end", listed{append(append([]api.Inode{rootDir()}, l.n...), rootFile), l.e}, Order)
	wantReach(t, "a directory ahead of a file", behind(rootDir(), rootFile), 0, 1, 2, 3, 4, 5, 6, 7, 8)
	wantReach(t, "a file ahead of a directory", behind(rootFile, rootDir()), 0)
	// One entry is one too many, also of a file that stands behind.
	wantFaults(t, "with an entry", listed{n: []api.Inode{rootDir(), rootFile}}.tied(in(0, "r", 0)), Order, Many)
}

func TestADirectoryOnTheWayTwice(t *testing.T) {
	one := alone().made(file(2)).tied(in(1, "f", 2), in(0, "d", 1))
	linked := func(i api.Inode) api.Inode {
		i.Links = 1
		return i
	}
	with := func(a, b api.Inode) listed { return one.made(linked(a), linked(b)) }
	wantFaults(t, "a directory ahead of a file", with(dir(1), file(1)), Order)
	wantFaults(t, "a directory ahead of a symbolic link", with(dir(1), sym(1)), Order)
	wantFaults(t, "a file ahead of a directory", with(file(1), dir(1)), Order, Lost, Apart)
	wantFaults(t, "a symbolic link ahead of a directory", with(sym(1), dir(1)), Order, Lost, Apart)
	wantFaults(t, "a directory ahead of one of no kind", with(dir(1), api.Inode{Id: id(1)}), Order, Shape)
	wantFaults(t, "one of no kind ahead of a directory", with(api.Inode{Id: id(1)}, dir(1)), Order, Shape, Lost, Apart)
	wantReach(t, "a directory ahead of a file", with(dir(1), file(1)), 0, 1, 2)
	wantReach(t, "a file ahead of a directory", with(file(1), dir(1)), 0, 1)
	wantReach(t, "one of no kind ahead of a directory", with(api.Inode{Id: id(1)}, dir(1)), 0, 1)
	// The other one far behind, and far ahead.
	l := one.made(linked(dir(1)))
	l.n = append(l.n, linked(file(1)))
	wantFaults(t, "a file at the end", l, Order)
	l = one.made(linked(dir(1)))
	l.n = append([]api.Inode{linked(file(1))}, l.n...)
	wantFaults(t, "a file at the begin", l, Order, Lost, Apart)
	wantReach(t, "a file at the begin", l, 0, 1)
}

func TestEachOfThemIsAsked(t *testing.T) {
	// Each of two, the one ahead and the one behind.
	for _, x := range []struct {
		what   string
		links  int
		a, b   api.Inode
		faults []int
	}{
		{"two entries, of a file and of a directory", 2, file(9), dir(9), []int{Order, Many}},
		{"two entries, of two files", 2, file(9), sym(9), []int{Order}},
		{"seven", 7, file(9), sym(9), []int{Order, Many}},
		{"none", 0, file(9), sym(9), []int{Order, Many, Apart}},
		{"of no kind", 1, file(9), api.Inode{Id: id(9), Kind: 4}, []int{Order, Shape}},
		{"a mode", 1, file(9), api.Inode{Id: id(9), Kind: api.File, Mode: 4096}, []int{Order, Bounds}},
		{"data", 1, file(9), api.Inode{Id: id(9), Kind: api.Sym, Data: strings.Repeat("x", 33)}, []int{Order, Bounds}},
		{"data of a file", 1, sym(9), api.Inode{Id: id(9), Kind: api.File, Data: strings.Repeat("x", 64)}, []int{Order}},
		{"links", 1, file(9), api.Inode{Id: id(9), Kind: api.File, Links: 1}, []int{Order, Count}},
	} {
		for range 2 {
			l := laid().made(x.a, x.b)
			for k := range x.links {
				l = l.tied(in(4, strconv.Itoa(k), 9))
			}
			wantFaults(t, x.what, l, x.faults...)
			x.a, x.b = x.b, x.a
		}
	}
}

// Several faults at once.

func TestSeveralFaults(t *testing.T) {
	deeds := []func(l listed) listed{
		func(l listed) listed { return l.swapped(len(l.n)-1, len(l.n)-2, 0, 0) },
		func(l listed) listed { return l.turned(id(8), func(i *api.Inode) { i.Kind = 9 }) },
		func(l listed) listed { return l.tied(api.Entry{At: no(), Name: "x", Ino: id(5)}) },
		func(l listed) listed { return l.turned(id(7), func(i *api.Inode) { i.Links = 9 }) },
		func(l listed) listed { return l.tied(in(0, "r", 0)) },
		func(l listed) listed { return l.made(dir(20)).tied(in(20, "x", 20)) },
		func(l listed) listed { return l.turned(id(5), func(i *api.Inode) { i.Mode = 4096 }) },
	}
	for set := range 1 << len(deeds) {
		l := laid()
		var want []int
		for k := range deeds {
			// Order at last: the others put in order.
			do := (k + 1) % len(deeds)
			if set>>do&1 == 1 {
				l = deeds[do](l)
			}
			if set>>k&1 == 1 {
				want = append(want, k+1)
			}
		}
		wantFaults(t, "several", l, want...)
	}
}

func TestAFaultIsToldOnce(t *testing.T) {
	l := laid()
	for k := range l.n {
		l.n[k].Links, l.n[k].Mode, l.n[k].Kind = 50+k, -1, 9
	}
	slices.Reverse(l.n)
	slices.Reverse(l.e)
	for k := range l.e {
		l.e[k].Name = ""
	}
	wantFaults(t, "each many times", l, Order, Shape, Lost, Count, Apart, Bounds)
	wantFaults(t, "all", l.entered(in(0, "r", 0)), Order, Shape, Lost, Count, Many, Apart, Bounds)
}

// P10.3: with one less, what was fine isn't.

// wantLess holds lists that are fine against these with one less.
func wantLess(t *testing.T, l listed) {
	t.Helper()
	wantFaults(t, "all of it", l)
	for k := range l.e {
		less := l.withoutEntry(k)
		if faults, _ := asked(t, less); !slices.Contains(faults, Count) {
			t.Fatalf("without %v: %v", l.e[k], faults)
		}
		wantPlain(t, less)
	}
	for k, i := range l.n {
		want := Lost
		if i.Id == (api.Stamp{}) {
			want = Shape
		}
		less := l.withoutInode(k)
		if faults, _ := asked(t, less); !slices.Contains(faults, want) {
			t.Fatalf("without %v: %v", i, faults)
		}
		wantPlain(t, less)
	}
}

func TestWithOneLess(t *testing.T) {
	for _, l := range fineLists() {
		wantLess(t, l)
	}
}

func TestWithOneLessTheRootAloneIsFine(t *testing.T) {
	l := crowd(1)
	wantFaults(t, "without the entry", l.withoutEntry(0), Count, Many, Apart)
	wantFaults(t, "without the inode", l.withoutInode(1), Lost)
	// Only without both.
	wantFaults(t, "without both", l.withoutEntry(0).withoutInode(1))
	wantFaults(t, "without the root", alone().withoutInode(0), Shape)
}

// grown is a file system that chance makes, all of whose inodes have names.
func grown(r *rand.Rand) listed {
	g := graph.New()
	dirs, others := []api.Stamp{{}}, []api.Stamp{}
	for many := r.IntN(40); len(g.Inodes()) <= many; {
		id := api.Stamp{Time: 1 + r.Int64N(60), Rep: r.IntN(8)}
		at, name := dirs[r.IntN(len(dirs))], strconv.Itoa(r.IntN(1000))
		if _, there := g.Look(at, name); there {
			continue
		}
		if len(others) > 0 && r.IntN(3) == 0 {
			g.Tie(api.Entry{At: at, Name: name, Ino: others[r.IntN(len(others))]})
			continue
		}
		kind := 1 + r.IntN(3)
		if g.Make(id, kind) != api.OK {
			continue
		}
		g.Tie(api.Entry{At: at, Name: name, Ino: id})
		least, most := []int{0, 0, 0, 1}[kind], []int{0, 0, 64, 32}[kind]
		g.Set(id, r.IntN(4096), strings.Repeat("x", least+r.IntN(most-least+1)))
		if kind == api.Dir {
			dirs = append(dirs, id)
		} else {
			others = append(others, id)
		}
	}
	return listed{g.Inodes(), g.Entries()}
}

func TestWithOneLessByChance(t *testing.T) {
	r := rand.New(rand.NewPCG(10, 3))
	for range 150 {
		wantLess(t, grown(r))
	}
}

// R3: what is handed in stays, and shares nothing with what is told.

func TestWhatIsHandedInStays(t *testing.T) {
	l := laid().made(dir(20), file(20)).tied(in(0, "", 9), in(20, "x", 20))
	slices.Reverse(l.n[1:])
	slices.Reverse(l.e)
	// Also what stands behind, as far as there is room for it.
	for cut := range 5 {
		was := l.copy()
		n, e := l.n[:len(l.n)-cut], l.e[:len(l.e)-cut]
		faults, reached := Check(n, e), Reach(n, e)
		if Fine(n, e) || len(faults) == 0 || len(reached) == 0 {
			t.Fatalf("%v, %v", faults, reached)
		}
		_, _ = append(faults, 99), append(reached, no())
		same(t, "inodes", l.n, was.n)
		same(t, "entries", l.e, was.e)
	}
}

func TestWhatWasToldStays(t *testing.T) {
	l := laid().made(file(9))
	faults, reached := Check(l.n, l.e), Reach(l.n, l.e)
	wasFaults, wasReached := slices.Clone(faults), slices.Clone(reached)
	for k := range l.n {
		l.n[k] = api.Inode{Id: no(), Kind: 9, Links: 9, Mode: -9, Data: "9"}
	}
	for k := range l.e {
		l.e[k] = api.Entry{At: no(), Name: "", Ino: no()}
	}
	Check(l.n, l.e)
	Reach(l.n, l.e)
	other := chain(8)
	Check(other.n, other.e)
	Reach(other.n, other.e)
	same(t, "faults", faults, wasFaults)
	same(t, "reached", reached, wasReached)
}

func TestWhatWasToldMayBeWritten(t *testing.T) {
	l := laid().made(file(9))
	for range 3 {
		faults, reached := Check(l.n, l.e), Reach(l.n, l.e)
		same(t, "faults", faults, []int{Many, Apart})
		same(t, "reached", reached, l.reach())
		for k := range faults {
			faults[k] = 99
		}
		for k := range reached {
			reached[k] = no()
		}
	}
}

// R4: the answers hang on nothing that was asked before.

func TestAnswersHangOnNothingElse(t *testing.T) {
	r := rand.New(rand.NewPCG(10, 4))
	type answer struct {
		Faults  []int
		Reached []api.Stamp
		Fine    bool
	}
	ask := func(l listed) answer {
		return answer{append([]int{}, Check(l.n, l.e)...), append([]api.Stamp{}, Reach(l.n, l.e)...), Fine(l.n, l.e)}
	}
	var all []listed
	var told []answer
	for range 60 {
		l := spoiled(r, grown(r))
		all, told = append(all, l), append(told, ask(l))
	}
	for range 5 {
		for _, k := range r.Perm(len(all)) {
			if got := ask(all[k]); !reflect.DeepEqual(got, told[k]) {
				t.Fatalf("%v; at first %v", got, told[k])
			}
		}
	}
	answers := make(chan bool)
	for range 4 {
		go func() {
			alike := true
			for k := range all {
				alike = alike && reflect.DeepEqual(ask(all[k]), told[k])
			}
			answers <- alike
		}()
	}
	for range 4 {
		if !<-answers {
			t.Error("other answers, when several ask")
		}
	}
}

// All lists that are short, and lists that chance spoils, held against what lists alone tell.

func TestAllShortLists(t *testing.T) {
	var inodes []api.Inode
	for n := range 3 {
		for _, kind := range []int{api.Dir, api.File} {
			for links := range 2 {
				inodes = append(inodes, api.Inode{Id: id(n), Kind: kind, Links: links})
			}
		}
	}
	var entries []api.Entry
	for at := range 3 {
		for ino := range 3 {
			entries = append(entries, in(at, "a", ino))
		}
	}
	rows := func(many int) [][]api.Entry {
		all := [][]api.Entry{nil}
		for begin := 0; many > 0; many-- {
			end := len(all)
			for _, row := range all[begin:end] {
				for _, e := range entries {
					all = append(all, append(row[:len(row):len(row)], e))
				}
			}
			begin = end
		}
		return all
	}
	try := func(n []api.Inode, most int) {
		for _, e := range rows(most) {
			wantPlain(t, listed{n, e})
		}
	}
	try(nil, 2)
	for _, a := range inodes {
		try([]api.Inode{a}, 2)
		for _, b := range inodes {
			try([]api.Inode{a, b}, 2)
			for _, c := range inodes {
				try([]api.Inode{a, b, c}, 1)
			}
		}
	}
	try([]api.Inode{dir(0), dir(1), dir(2)}, 4)
	try([]api.Inode{dir(1), file(1), dir(0), dir(2)}, 3)
}

// some is a stamp of a file system, or, seldom, another one.
func some(r *rand.Rand, l listed) api.Stamp {
	if len(l.n) == 0 || r.IntN(6) == 0 {
		bad := append(badStamps(), no(), id(3), id(50))
		return bad[r.IntN(len(bad))]
	}
	return l.n[r.IntN(len(l.n))].Id
}

// spoil turns something in a file system.
func spoil(r *rand.Rand, l listed) listed {
	if len(l.n) == 0 || len(l.e) == 0 {
		return l.made(dir(r.IntN(3))).entered(in(r.IntN(3), "x", r.IntN(3)))
	}
	i, j, k := r.IntN(len(l.n)), r.IntN(len(l.n)), r.IntN(len(l.e))
	l = l.copy()
	switch r.IntN(16) {
	case 0:
		return l.swapped(i, j, k, k)
	case 1:
		return l.swapped(i, i, k, r.IntN(len(l.e)))
	case 2:
		l.n[i].Kind = noKinds()[r.IntN(len(noKinds()))]
	case 3:
		l.n[i].Kind = 1 + r.IntN(3)
	case 4:
		l.n[i].Links += r.IntN(3) - 1
	case 5:
		l.n[i].Mode = []int{-1, 0, 4095, 4096}[r.IntN(4)]
	case 6:
		l.n[i].Data = strings.Repeat("x", []int{0, 1, 32, 33, 64, 65}[r.IntN(6)])
	case 7:
		l.n = slices.Insert(l.n, j, l.n[i])
	case 8:
		l.n[i].Id = some(r, l)
	case 9:
		return l.withoutInode(i)
	case 10:
		return l.withoutEntry(k)
	case 11:
		l.e = slices.Insert(l.e, r.IntN(len(l.e)), l.e[k])
	case 12:
		l.e[k].At = some(r, l)
	case 13:
		l.e[k].Ino = some(r, l)
	case 14:
		l.e[k].Name = append(badNames(), "x", "y")[r.IntN(len(badNames())+2)]
	case 15:
		return l.tied(api.Entry{At: some(r, l), Name: "x" + strconv.Itoa(r.IntN(20)), Ino: some(r, l)})
	}
	return l
}

// spoiled has something turned, some times.
func spoiled(r *rand.Rand, l listed) listed {
	for range r.IntN(5) {
		l = spoil(r, l)
	}
	return l
}

func TestSpoiledLists(t *testing.T) {
	r := rand.New(rand.NewPCG(10, 5))
	told := map[int]int{}
	for range 6000 {
		l := spoiled(r, grown(r))
		wantPlain(t, l)
		faults, _ := asked(t, l)
		for _, fault := range append(faults, -len(faults)) {
			told[fault]++
		}
	}
	// Each fault often, and none, and many at once.
	for _, fault := range []int{Order, Shape, Lost, Count, Many, Apart, Bounds, 0, -1, -2, -3, -4, -5} {
		if told[fault] < 20 {
			t.Errorf("%d: only %d times", fault, told[fault])
		}
	}
}

// P1: whatever comes, each call ends, and none panics.

func TestVeryLongLists(t *testing.T) {
	const many = 70000
	l := chain(many)
	wantMost := func(what string, l listed, most int, want ...int) {
		t.Helper()
		faults, reached := asked(t, l)
		same(t, what, faults, want)
		if len(reached) != most {
			t.Fatalf("%s: %d reached", what, len(reached))
		}
	}
	wantMost("one below the other", l, many+1, Bounds)
	wantMost("and to its begin", l.tied(in(many, "x", 1)), many+1, Many, Bounds)
	wantMost("a ring that isn't reached", listed{l.n, append(slices.Clone(l.e[1:]), in(many, "x", 1))}, 1, Apart, Bounds)
	slices.Reverse(l.e)
	wantMost("from the end on", l, many+1, Order, Bounds)
	l = listed{slices.Repeat([]api.Inode{rootDir(), dir(1)}, many), slices.Repeat([]api.Entry{in(0, "a", 1), in(1, "r", 0)}, many)}
	wantMost("twice, again and again", l, 2, Order, Count, Many, Bounds)
}

func TestFarNumbers(t *testing.T) {
	l := listed{
		[]api.Inode{{Id: api.Stamp{Time: math.MinInt64, Rep: math.MaxInt}, Kind: math.MinInt, Links: math.MaxInt, Mode: math.MinInt, Data: strings.Repeat("x", 1<<20)}, {Id: api.Stamp{Time: math.MaxInt64, Rep: math.MinInt}, Kind: math.MaxInt, Links: math.MinInt, Mode: math.MaxInt}},
		[]api.Entry{{At: api.Stamp{Time: math.MaxInt64, Rep: math.MinInt}, Name: strings.Repeat("/", 1<<20), Ino: api.Stamp{Time: math.MinInt64, Rep: math.MaxInt}}},
	}
	wantFaults(t, "far off", l, Shape, Lost, Count, Many, Apart, Bounds)
}

// fromBytes are lists that bytes say: of each five an inode, or an entry.
func fromBytes(b []byte) listed {
	var l listed
	names := append(badNames(), "a", "b", "c", "aa", "\xff", "12345678")
	stamps := append(badStamps(), id(0), id(0), id(0), id(1), id(2), id(3), id(4), id(5), id(6), no())
	for ; len(b) >= 5; b = b[5:] {
		x, y := stamps[int(b[1])%len(stamps)], stamps[int(b[2])%len(stamps)]
		if b[0]%2 == 0 {
			l.n = append(l.n, api.Inode{Id: x, Kind: int(b[2] % 5), Links: int(b[3]%9) - 1, Mode: int(b[3]/9)*160 - 1, Data: strings.Repeat("x", int(b[4]%70))})
		} else {
			l.e = append(l.e, api.Entry{At: x, Name: names[int(b[3])%len(names)], Ino: y})
		}
	}
	return l
}

func FuzzCheck(f *testing.F) {
	f.Add([]byte{})
	f.Add([]byte{0, 18, 1, 10, 0})
	f.Add([]byte{0, 18, 1, 10, 0, 0, 21, 2, 11, 64, 1, 18, 21, 12, 0})
	f.Add([]byte{0, 18, 1, 10, 0, 0, 21, 1, 11, 0, 0, 22, 1, 11, 0, 1, 21, 22, 12, 0, 1, 22, 21, 12, 0})
	f.Fuzz(func(t *testing.T, b []byte) {
		wantPlain(t, fromBytes(b))
	})
}
