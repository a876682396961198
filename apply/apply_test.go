package apply

import (
	"math"
	"math/rand/v2"
	"slices"
	"strconv"
	"strings"
	"testing"

	"thimble/api"
	"thimble/audit"
	"thimble/graph"
	"thimble/op"
)

// lists is all that a graph tells: its inodes, and its entries.
type lists struct {
	n []api.Inode
	e []api.Entry
}

func read(g *graph.Graph) lists {
	return lists{g.Inodes(), g.Entries()}
}

func (l lists) same(other lists) bool {
	return slices.Equal(l.n, other.n) && slices.Equal(l.e, other.e)
}

func (l lists) fine() bool {
	return audit.Fine(l.n, l.e)
}

// What the chapter's words say, with lists alone, in which all is looked for whenever it is asked for.

func (l lists) inode(id api.Stamp) (api.Inode, bool) {
	for _, i := range l.n {
		if i.Id == id {
			return i, true
		}
	}
	return api.Inode{}, false
}

func (l lists) entry(at api.Stamp, name string) (api.Stamp, bool) {
	for _, e := range l.e {
		if e.At == at && e.Name == name {
			return e.Ino, true
		}
	}
	return api.Stamp{}, false
}

func (l lists) has(id api.Stamp) bool {
	_, there := l.inode(id)
	return there
}

func (l lists) kind(id api.Stamp) int {
	i, _ := l.inode(id)
	return i.Kind
}

func (l lists) entriesIn(dir api.Stamp) int {
	many := 0
	for _, e := range l.e {
		if e.At == dir {
			many++
		}
	}
	return many
}

func (l lists) entriesOf(id api.Stamp) int {
	many := 0
	for _, e := range l.e {
		if e.Ino == id {
			many++
		}
	}
	return many
}

func (l lists) under(dir, above api.Stamp) bool {
	if dir == above {
		return true
	}
	for _, e := range l.e {
		if e.Ino == dir {
			return l.under(e.At, above)
		}
	}
	return false
}

func (l lists) whyNotMake(o api.Op) api.Errno {
	_, name := l.entry(o.At, o.Name)
	switch {
	case !l.has(o.At):
		return 3
	case l.kind(o.At) != 1:
		return 6
	case name, l.has(o.Stamp):
		return 4
	case len(l.n) == 40:
		return 13
	}
	return 0
}

func (l lists) whyNotLink(o api.Op) api.Errno {
	_, name := l.entry(o.At, o.Name)
	switch {
	case !l.has(o.At), !l.has(o.Ino):
		return 3
	case l.kind(o.At) != 1:
		return 6
	case l.kind(o.Ino) == 1:
		return 5
	case name:
		return 4
	case l.entriesOf(o.Ino) == 6:
		return 12
	}
	return 0
}

func (l lists) isEntry(o api.Op) bool {
	return slices.Contains(l.e, api.Entry{At: o.At, Name: o.Name, Ino: o.Ino})
}

func (l lists) whyNotRemove(o api.Op) api.Errno {
	dir := l.kind(o.Ino) == 1
	switch {
	case !l.isEntry(o):
		return 3
	case o.Kind == 5 && dir:
		return 5
	case o.Kind == 6 && !dir:
		return 6
	case o.Kind == 6 && l.entriesIn(o.Ino) > 0:
		return 7
	}
	return 0
}

func (l lists) whyNotRename(o api.Op) api.Errno {
	target, is := l.entry(o.To, o.New)
	dir := l.kind(o.Ino) == 1
	switch {
	case !l.isEntry(o), !l.has(o.To):
		return 3
	case l.kind(o.To) != 1:
		return 6
	case is && target == o.Ino:
		return 0
	case dir && l.under(o.To, o.Ino):
		return 8
	case is && l.kind(target) == 1 && !dir:
		return 5
	case is && dir && l.kind(target) != 1:
		return 6
	case is && l.kind(target) == 1 && l.entriesIn(target) > 0:
		return 7
	}
	return 0
}

func (l lists) whyNotTurn(o api.Op) api.Errno {
	switch {
	case !l.has(o.Ino):
		return 3
	case o.Kind != 10 && l.kind(o.Ino) == 1:
		return 5
	case o.Kind != 10 && l.kind(o.Ino) == 3:
		return 8
	}
	return 0
}

func (l lists) why(o api.Op) api.Errno {
	switch {
	case !op.May(o):
		return 1
	case o.Kind <= 3:
		return l.whyNotMake(o)
	case o.Kind == 4:
		return l.whyNotLink(o)
	case o.Kind <= 6:
		return l.whyNotRemove(o)
	case o.Kind == 7:
		return l.whyNotRename(o)
	}
	return l.whyNotTurn(o)
}

func (l lists) do(o api.Op) lists {
	switch o.Kind {
	case 1, 2, 3:
		return l.made(api.Inode{Id: o.Stamp, Kind: o.Kind, Data: o.Data}).tied(o.At, o.Name, o.Stamp)
	case 4:
		return l.tied(o.At, o.Name, o.Ino)
	case 5, 6:
		return l.gone(o.At, o.Name)
	case 7:
		target, is := l.entry(o.To, o.New)
		if is && target == o.Ino {
			return l
		}
		if is {
			l = l.gone(o.To, o.New)
		}
		return l.untied(o.At, o.Name).tied(o.To, o.New, o.Ino)
	case 8:
		return l.turned(o.Ino, func(i *api.Inode) {
			head := (i.Data + strings.Repeat("\x00", 64))[:o.Off]
			tail := ""
			if end := o.Off + len(o.Data); end < len(i.Data) {
				tail = i.Data[end:]
			}
			i.Data = head + o.Data + tail
		})
	case 9:
		return l.turned(o.Ino, func(i *api.Inode) { i.Data = (i.Data + strings.Repeat("\x00", 64))[:o.Off] })
	}
	return l.turned(o.Ino, func(i *api.Inode) { i.Mode = o.Off })
}

// Lists with something else; links are counted again each time.

func aheadStamp(a, b api.Stamp) bool {
	return a.Time < b.Time || a.Time == b.Time && a.Rep < b.Rep
}

func aheadInode(a, b api.Inode) bool {
	return aheadStamp(a.Id, b.Id)
}

func aheadEntry(a, b api.Entry) bool {
	return aheadStamp(a.At, b.At) || a.At == b.At && a.Name < b.Name
}

// put puts a thing into a list whose things rise.
func put[T any](l []T, x T, ahead func(a, b T) bool) []T {
	at := 0
	for at < len(l) && !ahead(x, l[at]) {
		at++
	}
	return slices.Insert(slices.Clone(l), at, x)
}

func (l lists) counted() lists {
	l.n = slices.Clone(l.n)
	for k := range l.n {
		l.n[k].Links = l.entriesOf(l.n[k].Id)
	}
	return l
}

func (l lists) made(i api.Inode) lists {
	return lists{put(l.n, i, aheadInode), l.e}.counted()
}

func (l lists) dropped(id api.Stamp) lists {
	return lists{slices.DeleteFunc(slices.Clone(l.n), func(i api.Inode) bool { return i.Id == id }), l.e}.counted()
}

func (l lists) tied(at api.Stamp, name string, ino api.Stamp) lists {
	return lists{l.n, put(l.e, api.Entry{At: at, Name: name, Ino: ino}, aheadEntry)}.counted()
}

func (l lists) untied(at api.Stamp, name string) lists {
	return lists{l.n, slices.DeleteFunc(slices.Clone(l.e), func(e api.Entry) bool { return e.At == at && e.Name == name })}.counted()
}

// gone is without an entry, and without its inode, if that has no other one.
func (l lists) gone(at api.Stamp, name string) lists {
	ino, _ := l.entry(at, name)
	l = l.untied(at, name)
	if l.entriesOf(ino) == 0 {
		l = l.dropped(ino)
	}
	return l
}

func (l lists) turned(id api.Stamp, turn func(i *api.Inode)) lists {
	l.n = slices.Clone(l.n)
	for k := range l.n {
		if l.n[k].Id == id {
			turn(&l.n[k])
		}
	}
	return l
}

// id is a stamp of a number: none the root's, and each other one that of a replica of its own, as far as there are so many.
func id(n int) api.Stamp {
	return api.Stamp{Time: int64(n), Rep: n % 8}
}

// Operations; n is the number of the stamp.

func mkdir(n, at int, name string) api.Op {
	return api.Op{Stamp: id(n), Kind: api.Mkdir, At: id(at), Name: name}
}

func create(n, at int, name string) api.Op {
	return api.Op{Stamp: id(n), Kind: api.Create, At: id(at), Name: name}
}

func symlink(n, at int, name, data string) api.Op {
	return api.Op{Stamp: id(n), Kind: api.Symlink, At: id(at), Name: name, Data: data}
}

func link(n, at, ino int, name string) api.Op {
	return api.Op{Stamp: id(n), Kind: api.Link, At: id(at), Ino: id(ino), Name: name}
}

func unlink(n, at, ino int, name string) api.Op {
	return api.Op{Stamp: id(n), Kind: api.Unlink, At: id(at), Ino: id(ino), Name: name}
}

func rmdir(n, at, ino int, name string) api.Op {
	return api.Op{Stamp: id(n), Kind: api.Rmdir, At: id(at), Ino: id(ino), Name: name}
}

func rename(n, at, ino int, name string, to int, newName string) api.Op {
	return api.Op{Stamp: id(n), Kind: api.Rename, At: id(at), Ino: id(ino), Name: name, To: id(to), New: newName}
}

func write(n, ino, off int, data string) api.Op {
	return api.Op{Stamp: id(n), Kind: api.Write, Ino: id(ino), Off: off, Data: data}
}

func trunc(n, ino, size int) api.Op {
	return api.Op{Stamp: id(n), Kind: api.Trunc, Ino: id(ino), Off: size}
}

func setattr(n, ino, mode int) api.Op {
	return api.Op{Stamp: id(n), Kind: api.Setattr, Ino: id(ino), Off: mode}
}

// makers are operations of the three kinds that make an inode, else alike.
func makers(n, at int, name string) []api.Op {
	return []api.Op{mkdir(n, at, name), create(n, at, name), symlink(n, at, name, "/a")}
}

// Inodes of the graph that laid makes; no is none of them, new neither.
const (
	nRoot  = 0
	nDir   = 1  // a directory in the root: d
	nIn    = 2  // one in nDir: in
	nDeep  = 3  // one in nIn, without entries: deep
	nEmpty = 4  // one in the root, without entries: empty
	nFull  = 5  // one in the root: full
	nFile  = 6  // a file of two names: f in the root and in nDir
	nOne   = 7  // a file of one name, of 64 bytes: one in the root
	nSix   = 8  // a file of six names: 6 in the root, in nDir, nIn and nFull; 61 and 62 in the root
	nBare  = 9  // a file of one name, without data: bare in nFull
	nSym   = 10 // a symbolic link of one name: s in the root
	nTwo   = 11 // a symbolic link of two names: t in the root and in nFull
	nNew   = 20
	nNo    = 30
)

func sixtyFour() string {
	return strings.Repeat("0123456789abcdef", 4)
}

// laid is a graph of all sorts that is fine.
func laid(t testing.TB) *graph.Graph {
	t.Helper()
	return built(t, lists{[]api.Inode{
		{Id: id(nRoot), Kind: api.Dir, Mode: 493},
		{Id: id(nDir), Kind: api.Dir, Mode: 7},
		{Id: id(nIn), Kind: api.Dir},
		{Id: id(nDeep), Kind: api.Dir},
		{Id: id(nEmpty), Kind: api.Dir, Mode: 4095},
		{Id: id(nFull), Kind: api.Dir},
		{Id: id(nFile), Kind: api.File, Mode: 420, Data: "text"},
		{Id: id(nOne), Kind: api.File, Mode: 4095, Data: sixtyFour()},
		{Id: id(nSix), Kind: api.File, Data: "6"},
		{Id: id(nBare), Kind: api.File, Mode: 1},
		{Id: id(nSym), Kind: api.Sym, Mode: 511, Data: "/d/in"},
		{Id: id(nTwo), Kind: api.Sym, Data: "one"},
	}, []api.Entry{
		{At: id(nRoot), Name: "6", Ino: id(nSix)}, {At: id(nRoot), Name: "61", Ino: id(nSix)}, {At: id(nRoot), Name: "62", Ino: id(nSix)}, {At: id(nDir), Name: "6", Ino: id(nSix)}, {At: id(nIn), Name: "6", Ino: id(nSix)}, {At: id(nFull), Name: "6", Ino: id(nSix)},
		{At: id(nRoot), Name: "d", Ino: id(nDir)}, {At: id(nDir), Name: "in", Ino: id(nIn)}, {At: id(nIn), Name: "deep", Ino: id(nDeep)}, {At: id(nRoot), Name: "empty", Ino: id(nEmpty)}, {At: id(nRoot), Name: "full", Ino: id(nFull)},
		{At: id(nRoot), Name: "f", Ino: id(nFile)}, {At: id(nDir), Name: "f", Ino: id(nFile)}, {At: id(nRoot), Name: "one", Ino: id(nOne)}, {At: id(nFull), Name: "bare", Ino: id(nBare)},
		{At: id(nRoot), Name: "s", Ino: id(nSym)}, {At: id(nRoot), Name: "t", Ino: id(nTwo)}, {At: id(nFull), Name: "t", Ino: id(nTwo)},
	}})
}

// crowded is laid's, and as many files more as there may be inodes: one in the root for each.
func crowded(t testing.TB) *graph.Graph {
	t.Helper()
	l := read(laid(t))
	for n := 100; len(l.n) < 40; n++ {
		l = l.made(api.Inode{Id: id(n), Kind: api.File}).tied(id(nRoot), strconv.Itoa(n), id(n))
	}
	return built(t, l)
}

// chain is a directory in another one, 39 of them below the root; the name of each is d.
func chain(t testing.TB) *graph.Graph {
	t.Helper()
	l := read(graph.New())
	for n := 1; n < 40; n++ {
		l = l.made(api.Inode{Id: id(n), Kind: api.Dir}).tied(id(n-1), "d", id(n))
	}
	return built(t, l)
}

// built is the graph of lists that are fine.
func built(t testing.TB, l lists) *graph.Graph {
	t.Helper()
	g := graph.New()
	for _, i := range l.n {
		if i.Id != id(nRoot) {
			wantErr(t, g.Make(i.Id, i.Kind), api.OK)
		}
		wantErr(t, g.Set(i.Id, i.Mode, i.Data), api.OK)
	}
	for _, e := range l.e {
		wantErr(t, g.Tie(e), api.OK)
	}
	if !read(g).fine() {
		t.Fatalf("not fine: %v", read(g))
	}
	return g
}

func wantErr(t testing.TB, got, want api.Errno) {
	t.Helper()
	if got != want {
		t.Fatalf("error %d; want %d", got, want)
	}
}

func wantLists(t testing.TB, what string, got, want lists) {
	t.Helper()
	if !got.same(want) {
		t.Fatalf("%s:\n%v\nwant\n%v", what, got, want)
	}
}

// wantElse holds all that an operation doesn't name against what it was: each other entry, and each other inode.
func wantElse(t testing.TB, was, is lists, o api.Op) {
	t.Helper()
	target, _ := was.entry(o.To, o.New)
	otherEntry := func(e api.Entry) bool {
		return !(o.Name != "" && e.At == o.At && e.Name == o.Name) && !(o.New != "" && e.At == o.To && e.Name == o.New)
	}
	otherInode := func(i api.Inode) bool {
		return i.Id != o.Stamp && (i.Id != o.Ino || o.Kind <= api.Symlink) && (i.Id != target || o.Kind != api.Rename)
	}
	only := func(l lists) lists {
		return lists{
			slices.DeleteFunc(slices.Clone(l.n), func(i api.Inode) bool { return !otherInode(i) }),
			slices.DeleteFunc(slices.Clone(l.e), func(e api.Entry) bool { return !otherEntry(e) }),
		}
	}
	wantLists(t, "all else", only(is), only(was))
}

// done does an operation to a copy of a graph that is fine, holds all that is promised of each one against what is told, and tells the error, and what there is then.
func done(t testing.TB, g *graph.Graph, o api.Op) (api.Errno, *graph.Graph) {
	t.Helper()
	was, c := read(g), g.Copy()
	why := Why(c, o)
	wantErr(t, why, was.why(o))
	wantLists(t, "behind Why", read(c), was)
	wantErr(t, Why(c, o), why)
	ahead := c.Copy()
	wantErr(t, Do(c, o), why)
	is := read(c)
	if why == api.OK {
		wantLists(t, "behind Do", is, was.do(o))
		wantElse(t, was, is, o)
	} else {
		wantLists(t, "behind an error", is, was)
	}
	if !is.fine() {
		t.Fatalf("not fine: %v\nbehind %v\nof %v", is, o, was)
	}
	wantLists(t, "what was copied", read(g), was)
	wantLists(t, "a copy", read(ahead), was)
	return why, c
}

// wantWhy wants an error of an operation, and that nothing changes.
func wantWhy(t testing.TB, g *graph.Graph, o api.Op, want api.Errno) {
	t.Helper()
	e, _ := done(t, g, o)
	wantErr(t, e, want)
}

// wantDone wants that an operation leaves this.
func wantDone(t testing.TB, g *graph.Graph, o api.Op, want lists) *graph.Graph {
	t.Helper()
	e, c := done(t, g, o)
	wantErr(t, e, api.OK)
	wantLists(t, "behind it", read(c), want)
	return c
}

// all does operations to a graph, one behind the other, and wants that each can be done.
func all(t testing.TB, g *graph.Graph, l ...api.Op) *graph.Graph {
	t.Helper()
	for _, o := range l {
		e, c := done(t, g, o)
		if e != api.OK {
			t.Fatalf("error %d of %v", e, o)
		}
		g = c
	}
	return g
}

// The lists themselves, written by hand once.

func TestLaid(t *testing.T) {
	l := read(laid(t))
	if !l.fine() || len(l.n) != 12 || len(l.e) != 18 {
		t.Fatal(l)
	}
	wantLists(t, "counted", l.counted(), l)
	links := map[int]int{nRoot: 0, nDir: 1, nIn: 1, nDeep: 1, nEmpty: 1, nFull: 1, nFile: 2, nOne: 1, nSix: 6, nBare: 1, nSym: 1, nTwo: 2}
	for n, many := range links {
		if i, _ := l.inode(id(n)); i.Links != many {
			t.Error(i)
		}
	}
	if c := read(crowded(t)); len(c.n) != 40 {
		t.Error(len(c.n))
	}
}

// The example.

func TestExample(t *testing.T) {
	g := graph.New()
	wantErr(t, Do(g, create(1, 0, "f")), api.OK)
	wantLists(t, "behind Create", read(g), lists{[]api.Inode{{Kind: api.Dir}, {Id: id(1), Kind: api.File, Links: 1}}, []api.Entry{{Name: "f", Ino: id(1)}}})
	wantErr(t, Do(g, unlink(2, 0, 1, "f")), api.OK)
	wantLists(t, "behind Unlink", read(g), lists{[]api.Inode{{Kind: api.Dir}}, nil})
}

func TestARowWrittenOut(t *testing.T) {
	g := graph.New()
	for _, o := range []api.Op{mkdir(1, 0, "d"), mkdir(2, 1, "e"), create(3, 2, "f"), symlink(4, 1, "s", "e/f"), link(5, 0, 3, "g"), write(6, 3, 2, "xy"), setattr(7, 3, 420), setattr(8, 0, 493), rename(9, 1, 2, "e", 0, "e"), trunc(10, 3, 3)} {
		wantErr(t, Why(g, o), api.OK)
		wantErr(t, Do(g, o), api.OK)
	}
	wantLists(t, "behind all", read(g), lists{
		[]api.Inode{{Kind: api.Dir, Mode: 493}, {Id: id(1), Kind: api.Dir, Links: 1}, {Id: id(2), Kind: api.Dir, Links: 1}, {Id: id(3), Kind: api.File, Links: 2, Mode: 420, Data: "\x00\x00x"}, {Id: id(4), Kind: api.Sym, Links: 1, Data: "e/f"}},
		[]api.Entry{{Name: "d", Ino: id(1)}, {Name: "e", Ino: id(2)}, {Name: "g", Ino: id(3)}, {At: id(1), Name: "s", Ino: id(4)}, {At: id(2), Name: "f", Ino: id(3)}},
	})
	for _, o := range []api.Op{unlink(11, 2, 3, "f"), rmdir(12, 0, 2, "e"), unlink(13, 0, 3, "g"), rename(14, 1, 4, "s", 0, "d2"), rmdir(15, 0, 1, "d")} {
		wantErr(t, Why(g, o), api.OK)
		wantErr(t, Do(g, o), api.OK)
	}
	wantLists(t, "at the end", read(g), lists{[]api.Inode{{Kind: api.Dir, Mode: 493}, {Id: id(4), Kind: api.Sym, Links: 1, Data: "e/f"}}, []api.Entry{{Name: "d2", Ino: id(4)}}})
}

// P11.1: what may not be.

// good is one operation of each kind that can be done to laid's graph.
func good() []api.Op {
	return []api.Op{
		mkdir(nNew, nDir, "new"), create(nNew, nDir, "new"), symlink(nNew, nDir, "new", "x"), link(nNew, nDir, nOne, "new"), unlink(nNew, nRoot, nOne, "one"),
		rmdir(nNew, nRoot, nEmpty, "empty"), rename(nNew, nRoot, nOne, "one", nDir, "new"), write(nNew, nFile, 1, "x"), trunc(nNew, nFile, 1), setattr(nNew, nFile, 1),
	}
}

func TestGood(t *testing.T) {
	for k, o := range good() {
		if o.Kind != k+1 {
			t.Fatal(o)
		}
		wantWhy(t, laid(t), o, api.OK)
	}
}

func TestNilGraph(t *testing.T) {
	bad := append(spoiled(), api.Op{}, api.Op{Kind: 11}, mkdir(nNew, nNo, "new"), write(nNew, nRoot, 0, "x"), setattr(nNew, nNo, 0), rename(nNew, nNo, nNo, "a", nNo, "b"))
	for _, o := range append(good(), bad...) {
		wantErr(t, Why(nil, o), api.ErrArg)
		wantErr(t, Do(nil, o), api.ErrArg)
	}
}

func TestFieldsThatAKindHasNot(t *testing.T) {
	has := map[int]string{1: "At Name", 2: "At Name", 3: "At Name Data", 4: "At Ino Name", 5: "At Ino Name", 6: "At Ino Name", 7: "At Ino To Name New", 8: "Ino Off Data", 9: "Ino Off", 10: "Ino Off"}
	turn := map[string]func(o *api.Op){
		"At":   func(o *api.Op) { o.At = id(nDir) },
		"Ino":  func(o *api.Op) { o.Ino = id(nFile) },
		"To":   func(o *api.Op) { o.To = id(nDir) },
		"Name": func(o *api.Op) { o.Name = "f" },
		"New":  func(o *api.Op) { o.New = "new" },
		"Off":  func(o *api.Op) { o.Off = 1 },
		"Data": func(o *api.Op) { o.Data = "x" },
	}
	many := 0
	for _, o := range good() {
		for field, f := range turn {
			if !slices.Contains(strings.Fields(has[o.Kind]), field) {
				other := o
				f(&other)
				wantWhy(t, laid(t), other, api.ErrArg)
				many++
			}
		}
	}
	if many != 70-2-2-3-3-3-3-5-3-2-2 {
		t.Fatal(many)
	}
}

func TestKindsThatAreNone(t *testing.T) {
	for _, kind := range []int{0, 11, 12, 13, 14, -1, -2, -10, 255, 256, 257, 1 << 32, 1<<32 + 1, 1<<32 + 5, math.MaxInt, math.MinInt} {
		wantWhy(t, laid(t), api.Op{Kind: kind}, api.ErrArg)
		wantWhy(t, laid(t), api.Op{Stamp: id(nNew), Kind: kind}, api.ErrArg)
		for _, o := range good() {
			o.Kind = kind
			wantWhy(t, laid(t), o, api.ErrArg)
		}
	}
}

// spoiled are operations that are good, but for one thing.
func spoiled() []api.Op {
	var l []api.Op
	for _, o := range good() {
		for _, s := range []api.Stamp{{}, {Time: 1, Rep: 8}, {Time: 1, Rep: -1}, {Time: 0, Rep: 1}, {Time: -1, Rep: 0}, {Time: 1<<30 + 1, Rep: 0}, {Time: math.MaxInt64, Rep: math.MaxInt}, {Time: math.MinInt64, Rep: math.MinInt}} {
			other := o
			other.Stamp = s
			l = append(l, other)
			if s != id(nRoot) {
				for _, field := range []*api.Stamp{&other.At, &other.Ino, &other.To} {
					other.Stamp = o.Stamp
					was := *field
					*field = s
					l = append(l, other)
					*field = was
				}
			}
		}
		for _, name := range []string{"", ".", "..", "/", "a/b", "\x00", "123456789"} {
			if o.Name != "" {
				other := o
				other.Name = name
				l = append(l, other)
			}
			if o.New != "" {
				other := o
				other.New = name
				l = append(l, other)
			}
		}
	}
	for _, ino := range []int{nFile, nRoot, nSym, nNo} {
		l = append(l, write(nNew, ino, -1, "x"), write(nNew, ino, 64, "x"), write(nNew, ino, 65, "x"), write(nNew, ino, 0, ""), write(nNew, ino, 0, sixtyFour()+"x"), write(nNew, ino, 1, sixtyFour()), write(nNew, ino, math.MaxInt, "x"), write(nNew, ino, math.MinInt, "x"))
		l = append(l, trunc(nNew, ino, -1), trunc(nNew, ino, 65), trunc(nNew, ino, math.MaxInt), trunc(nNew, ino, math.MinInt))
		l = append(l, setattr(nNew, ino, -1), setattr(nNew, ino, 4096), setattr(nNew, ino, math.MaxInt), setattr(nNew, ino, math.MinInt))
	}
	return append(l, symlink(nNew, nDir, "new", ""), symlink(nNew, nDir, "new", strings.Repeat("x", 33)), symlink(nNew, nDir, "new", "a\x00b"), symlink(nNew, nNo, "new", ""), symlink(nNew, nFile, "new", "\x00"))
}

func TestOperationsThatMayNotBe(t *testing.T) {
	plain, full := laid(t), crowded(t)
	for _, o := range spoiled() {
		wantWhy(t, plain, o, api.ErrArg)
		wantWhy(t, full, o, api.ErrArg)
	}
}

func TestWhatMayNotBeIsToldAheadOfAllElse(t *testing.T) {
	g := crowded(t)
	for _, o := range makers(nFile, nNo, "") {
		wantWhy(t, g, o, api.ErrArg) // and no At, Stamp is there, no room
	}
	for _, o := range makers(nFile, nFile, "a/b") {
		wantWhy(t, g, o, api.ErrArg) // and At is no directory
	}
	for _, o := range []api.Op{
		link(nNew, nNo, nDir, ""), link(nNew, nFile, nSix, "."), unlink(nNew, nNo, nNo, ".."), rmdir(nNew, nRoot, nFull, "full/"),
		rename(nNew, nRoot, nDir, "d", nIn, ""), rename(nNew, nRoot, nDir, "d", nNo, "/"), rename(nNew, nRoot, nDir, "", nFile, "x"),
		{Stamp: id(nNew), Kind: api.Write, Ino: id(nNo)}, {Stamp: id(nNew), Kind: api.Trunc, Ino: id(nDir), Off: 65}, {Kind: api.Setattr, Ino: id(nNo)},
	} {
		wantWhy(t, g, o, api.ErrArg)
	}
}

// P11.1: Mkdir, Create, Symlink.

func TestMakeAlone(t *testing.T) {
	g := laid(t)
	for _, o := range makers(nNew, nNo, "new") {
		wantWhy(t, g, o, api.ErrNone)
	}
	for _, at := range []int{nFile, nOne, nSix, nBare, nSym, nTwo} {
		for _, o := range makers(nNew, at, "new") {
			wantWhy(t, g, o, api.ErrFile)
		}
	}
	// What is there may be of each kind.
	for at, names := range map[int][]string{nRoot: {"6", "61", "d", "empty", "f", "full", "one", "s", "t"}, nDir: {"6", "f", "in"}, nIn: {"6", "deep"}, nFull: {"6", "bare", "t"}} {
		for _, name := range names {
			for _, o := range makers(nNew, at, name) {
				wantWhy(t, g, o, api.ErrThere)
			}
		}
	}
	// So may be the inode of the Stamp; also At itself.
	for n := nDir; n <= nTwo; n++ {
		for _, at := range []int{nRoot, nDir, nDeep} {
			for _, o := range makers(n, at, "new") {
				wantWhy(t, g, o, api.ErrThere)
			}
		}
	}
	for _, at := range []int{nRoot, nDir, nDeep, nEmpty} {
		for _, o := range makers(nNew, at, "new") {
			wantWhy(t, crowded(t), o, api.ErrSpace)
		}
	}
}

func TestMakeOfTwoTheFirst(t *testing.T) {
	g, full := laid(t), crowded(t)
	for _, n := range []int{nDir, nFile, nSym} {
		for _, o := range makers(n, nNo, "new") {
			wantWhy(t, g, o, api.ErrNone) // the Stamp is there
			wantWhy(t, full, o, api.ErrNone)
		}
		for _, at := range []int{nFile, nSym} {
			for _, o := range makers(n, at, "new") {
				wantWhy(t, g, o, api.ErrFile) // the Stamp is there, also At's
				wantWhy(t, full, o, api.ErrFile)
			}
		}
		for _, o := range makers(n, nRoot, "f") {
			wantWhy(t, g, o, api.ErrThere) // both
			wantWhy(t, full, o, api.ErrThere)
		}
		for _, o := range makers(n, nRoot, "new") {
			wantWhy(t, full, o, api.ErrThere) // the Stamp, and no room
		}
	}
	for _, o := range makers(nNew, nNo, "new") {
		wantWhy(t, full, o, api.ErrNone) // no room
	}
	for _, o := range makers(nNew, nOne, "new") {
		wantWhy(t, full, o, api.ErrFile) // no room
	}
	for _, o := range makers(nNew, nRoot, "full") {
		wantWhy(t, full, o, api.ErrThere) // no room
	}
	for _, o := range makers(nNo, nNo, "new") {
		wantWhy(t, g, o, api.ErrNone) // in itself, which isn't there
	}
}

func TestTheLastOfFortyInodes(t *testing.T) {
	g := graph.New()
	for n := 1; n < 40; n++ {
		o := makers(n, 0, strconv.Itoa(n))[n%3]
		_, g = done(t, g, o)
		if len(g.Inodes()) != n+1 {
			t.Fatal(n)
		}
	}
	for _, o := range makers(40, 0, "40") {
		wantWhy(t, g, o, api.ErrSpace)
	}
	// With one less there is room for one, whatever it is; also what has two names is one.
	g = all(t, g, link(41, 0, 1, "l"), unlink(42, 0, 1, "1"))
	for _, o := range makers(40, 0, "40") {
		wantWhy(t, g, o, api.ErrSpace)
	}
	g = all(t, g, unlink(43, 0, 1, "l"))
	for _, o := range makers(40, 0, "40") {
		e, c := done(t, g, o)
		wantErr(t, e, api.OK)
		wantWhy(t, c, makers(44, 0, "44")[0], api.ErrSpace)
	}
	// The Stamp of what is gone may come again, too.
	for _, o := range makers(1, 0, "1") {
		wantWhy(t, g, o, api.OK)
	}
}

// P11.1: Link.

func TestLinkAlone(t *testing.T) {
	g := laid(t)
	for _, o := range []api.Op{link(nNew, nNo, nOne, "new"), link(nNew, nRoot, nNo, "new"), link(nNew, nNo, nSym, "one"), link(nNew, nEmpty, nNew, "new")} {
		wantWhy(t, g, o, api.ErrNone)
	}
	for _, at := range []int{nFile, nOne, nBare, nSym, nTwo} {
		wantWhy(t, g, link(nNew, at, nOne, "new"), api.ErrFile)
		wantWhy(t, g, link(nNew, at, nSym, "new"), api.ErrFile)
	}
	// Each directory, to a second name in the same directory, to one in another one, in itself, and the root.
	for _, dir := range []int{nRoot, nDir, nIn, nDeep, nEmpty, nFull} {
		for _, at := range []int{nRoot, nDir, nIn, nDeep, nEmpty, nFull} {
			wantWhy(t, g, link(nNew, at, dir, "new"), api.ErrDir)
		}
	}
	for _, o := range []api.Op{link(nNew, nRoot, nOne, "f"), link(nNew, nRoot, nOne, "one"), link(nNew, nRoot, nFile, "f"), link(nNew, nDir, nOne, "in"), link(nNew, nFull, nSym, "t"), link(nNew, nRoot, nSym, "d"), link(nNew, nRoot, nTwo, "s")} {
		wantWhy(t, g, o, api.ErrThere)
	}
	for _, at := range []int{nRoot, nEmpty, nDeep} {
		wantWhy(t, g, link(nNew, at, nSix, "new"), api.ErrLinks)
	}
}

func TestLinkOfTwoTheFirst(t *testing.T) {
	g := laid(t)
	for _, o := range []api.Op{
		link(nNew, nNo, nNo, "new"),  // neither
		link(nNew, nNo, nDir, "new"), // Ino is a directory
		link(nNew, nNo, nRoot, "d"),  // so is the root
		link(nNew, nNo, nSix, "new"), // Ino has 6 links
		link(nNew, nFile, nNo, "f"),  // At is no directory
		link(nNew, nSym, nNo, "new"), // At is no directory
		link(nNew, nRoot, nNo, "f"),  // the name is there
	} {
		wantWhy(t, g, o, api.ErrNone)
	}
	for _, o := range []api.Op{
		link(nNew, nFile, nDir, "new"),  // Ino is a directory
		link(nNew, nSym, nRoot, "new"),  // so is the root
		link(nNew, nFile, nSix, "new"),  // Ino has 6 links
		link(nNew, nSix, nSix, "new"),   // Ino is At, too
		link(nNew, nFile, nFile, "new"), // Ino is At
	} {
		wantWhy(t, g, o, api.ErrFile)
	}
	for _, o := range []api.Op{link(nNew, nRoot, nDir, "d"), link(nNew, nRoot, nDir, "f"), link(nNew, nDir, nEmpty, "in"), link(nNew, nIn, nRoot, "6")} {
		wantWhy(t, g, o, api.ErrDir) // the name is there
	}
	for _, o := range []api.Op{link(nNew, nRoot, nSix, "6"), link(nNew, nRoot, nSix, "f"), link(nNew, nDir, nSix, "in")} {
		wantWhy(t, g, o, api.ErrThere) // Ino has 6 links
	}
}

func TestLinkMayHaveAnyStampAndNeedsNoRoom(t *testing.T) {
	for _, g := range []*graph.Graph{laid(t), crowded(t)} {
		for _, n := range []int{nNew, nDir, nOne, nSym, nSix} {
			wantDone(t, g, link(n, nDir, nOne, "new"), read(g).tied(id(nDir), "new", id(nOne)))
		}
	}
}

func TestLinksUpToSix(t *testing.T) {
	for _, ino := range []int{nOne, nBare, nSym} {
		g := laid(t)
		for many := 2; many <= 6; many++ {
			g = wantDone(t, g, link(nNew, many%4, ino, "l"+strconv.Itoa(many)), read(g).tied(id(many%4), "l"+strconv.Itoa(many), id(ino)))
			if i, _ := g.Get(id(ino)); i.Links != many {
				t.Fatal(i)
			}
		}
		wantWhy(t, g, link(nNew, nEmpty, ino, "l7"), api.ErrLinks)
		g = all(t, g, unlink(nNew, 2, ino, "l2"))
		g = all(t, g, link(nNew, nEmpty, ino, "l7"))
		wantWhy(t, g, link(nNew, nEmpty, ino, "l8"), api.ErrLinks)
	}
}

// P11.1: Unlink, Rmdir.

// strayed are entries that are none: at, ino, name.
func strayed() []api.Entry {
	return []api.Entry{
		{At: id(nRoot), Ino: id(nOne), Name: "new"},   // no such name
		{At: id(nDir), Ino: id(nOne), Name: "one"},    // in another directory
		{At: id(nRoot), Ino: id(nOne), Name: "f"},     // of another file
		{At: id(nRoot), Ino: id(nFile), Name: "one"},  // the other way round
		{At: id(nRoot), Ino: id(nOne), Name: "s"},     // of a symbolic link
		{At: id(nRoot), Ino: id(nOne), Name: "d"},     // of a directory
		{At: id(nRoot), Ino: id(nEmpty), Name: "f"},   // of a file, and Ino is a directory
		{At: id(nRoot), Ino: id(nEmpty), Name: "d"},   // of another directory
		{At: id(nRoot), Ino: id(nFull), Name: "d"},    // of another one that isn't empty
		{At: id(nRoot), Ino: id(nDir), Name: "new"},   // no such name, and Ino is a directory with entries
		{At: id(nDir), Ino: id(nEmpty), Name: "e"},    // no such name, and Ino is one without
		{At: id(nNo), Ino: id(nOne), Name: "one"},     // no At
		{At: id(nFile), Ino: id(nOne), Name: "one"},   // At is a file
		{At: id(nSym), Ino: id(nIn), Name: "in"},      // At is a symbolic link
		{At: id(nRoot), Ino: id(nNo), Name: "one"},    // no Ino
		{At: id(nRoot), Ino: id(nNo), Name: "new"},    // neither
		{At: id(nRoot), Ino: id(nRoot), Name: "new"},  // the root, which Look tells of where nothing is
		{At: id(nRoot), Ino: id(nRoot), Name: "d"},    // the root
		{At: id(nRoot), Ino: id(nRoot), Name: "one"},  // the root
		{At: id(nNo), Ino: id(nRoot), Name: "one"},    // the root in nothing
		{At: id(nEmpty), Ino: id(nRoot), Name: "one"}, // the root in an empty directory
		{At: id(nFile), Ino: id(nRoot), Name: "one"},  // the root in a file
	}
}

func TestUnlinkAndRmdirWithoutTheEntry(t *testing.T) {
	for _, g := range []*graph.Graph{laid(t), crowded(t)} {
		for _, e := range strayed() {
			wantWhy(t, g, api.Op{Stamp: id(nNew), Kind: api.Unlink, At: e.At, Ino: e.Ino, Name: e.Name}, api.ErrNone)
			wantWhy(t, g, api.Op{Stamp: id(nNew), Kind: api.Rmdir, At: e.At, Ino: e.Ino, Name: e.Name}, api.ErrNone)
		}
	}
	for _, e := range strayed()[16:] {
		wantWhy(t, graph.New(), api.Op{Stamp: id(nNew), Kind: api.Unlink, At: e.At, Ino: e.Ino, Name: e.Name}, api.ErrNone)
		wantWhy(t, graph.New(), api.Op{Stamp: id(nNew), Kind: api.Rmdir, At: e.At, Ino: e.Ino, Name: e.Name}, api.ErrNone)
	}
}

func TestUnlinkOfDirectories(t *testing.T) {
	g := laid(t)
	for _, o := range []api.Op{unlink(nNew, nRoot, nDir, "d"), unlink(nNew, nDir, nIn, "in"), unlink(nNew, nIn, nDeep, "deep"), unlink(nNew, nRoot, nEmpty, "empty"), unlink(nNew, nRoot, nFull, "full")} {
		wantWhy(t, g, o, api.ErrDir)
	}
}

func TestRmdirOfWhatIsNoDirectory(t *testing.T) {
	g := laid(t)
	for _, o := range []api.Op{rmdir(nNew, nRoot, nFile, "f"), rmdir(nNew, nRoot, nOne, "one"), rmdir(nNew, nFull, nBare, "bare"), rmdir(nNew, nRoot, nSym, "s"), rmdir(nNew, nFull, nTwo, "t"), rmdir(nNew, nRoot, nSix, "61")} {
		wantWhy(t, g, o, api.ErrFile)
	}
}

func TestRmdirOfDirectoriesWithEntries(t *testing.T) {
	g := laid(t)
	for _, o := range []api.Op{rmdir(nNew, nRoot, nDir, "d"), rmdir(nNew, nDir, nIn, "in"), rmdir(nNew, nRoot, nFull, "full")} {
		wantWhy(t, g, o, api.ErrFull)
	}
	// One entry of each kind is enough, and when it is gone, the directory may go.
	for k, o := range makers(nNew, nEmpty, "x") {
		_, g := done(t, g, o)
		wantWhy(t, g, rmdir(nNew, nRoot, nEmpty, "empty"), api.ErrFull)
		remove := unlink
		if k == 0 {
			remove = rmdir
		}
		all(t, g, remove(nNew, nEmpty, nNew, "x"), rmdir(nNew, nRoot, nEmpty, "empty"))
	}
}

// P11.1: Rename.

func TestRenameWithoutTheEntry(t *testing.T) {
	for _, g := range []*graph.Graph{laid(t), crowded(t)} {
		for _, e := range strayed() {
			// Whatever To and New are: free, a file of its own, To no directory or nothing, below Ino, full, empty.
			for to, names := range map[int][]string{nRoot: {"free", "one", "f", "empty", "full", e.Name}, nFile: {"new"}, nNo: {"new"}, nIn: {"new", "deep", "6"}, nEmpty: {"new"}} {
				for _, name := range names {
					wantWhy(t, g, api.Op{Stamp: id(nNew), Kind: api.Rename, At: e.At, Ino: e.Ino, Name: e.Name, To: id(to), New: name}, api.ErrNone)
				}
			}
		}
	}
}

func TestRenameAlone(t *testing.T) {
	g := laid(t)
	// No inode To.
	for _, o := range []api.Op{rename(nNew, nRoot, nOne, "one", nNo, "new"), rename(nNew, nRoot, nDir, "d", nNo, "new"), rename(nNew, nRoot, nSym, "s", nNew, "s")} {
		wantWhy(t, g, o, api.ErrNone)
	}
	// To is no directory: a file, a symbolic link (also one to a directory), Ino itself.
	for _, o := range []api.Op{rename(nNew, nRoot, nOne, "one", nFile, "new"), rename(nNew, nRoot, nDir, "d", nFile, "new"), rename(nNew, nRoot, nOne, "one", nSym, "new"), rename(nNew, nRoot, nDir, "d", nSym, "d"), rename(nNew, nRoot, nOne, "one", nOne, "one"), rename(nNew, nRoot, nSym, "s", nSym, "x")} {
		wantWhy(t, g, o, api.ErrFile)
	}
	// A directory in itself, one step below, and two.
	for _, o := range []api.Op{rename(nNew, nRoot, nDir, "d", nDir, "new"), rename(nNew, nRoot, nDir, "d", nIn, "new"), rename(nNew, nRoot, nDir, "d", nDeep, "new"), rename(nNew, nRoot, nEmpty, "empty", nEmpty, "new"), rename(nNew, nDir, nIn, "in", nIn, "new"), rename(nNew, nDir, nIn, "in", nDeep, "deep"), rename(nNew, nRoot, nDir, "d", nDir, "d")} {
		wantWhy(t, g, o, api.ErrInval)
	}
	// No directory where an empty one is.
	for _, o := range []api.Op{rename(nNew, nRoot, nOne, "one", nRoot, "empty"), rename(nNew, nRoot, nFile, "f", nIn, "deep"), rename(nNew, nRoot, nSym, "s", nRoot, "empty"), rename(nNew, nFull, nTwo, "t", nRoot, "empty")} {
		wantWhy(t, g, o, api.ErrDir)
	}
	// A directory where none is.
	for _, o := range []api.Op{rename(nNew, nRoot, nEmpty, "empty", nRoot, "one"), rename(nNew, nRoot, nDir, "d", nRoot, "f"), rename(nNew, nRoot, nDir, "d", nRoot, "s"), rename(nNew, nIn, nDeep, "deep", nFull, "t"), rename(nNew, nRoot, nEmpty, "empty", nFull, "6"), rename(nNew, nDir, nIn, "in", nDir, "f")} {
		wantWhy(t, g, o, api.ErrFile)
	}
	// A directory where one with entries is, also that from which it comes, and one further up.
	for _, o := range []api.Op{rename(nNew, nRoot, nEmpty, "empty", nRoot, "full"), rename(nNew, nRoot, nFull, "full", nRoot, "d"), rename(nNew, nRoot, nEmpty, "empty", nDir, "in"), rename(nNew, nDir, nIn, "in", nRoot, "d"), rename(nNew, nIn, nDeep, "deep", nDir, "in"), rename(nNew, nIn, nDeep, "deep", nRoot, "d")} {
		wantWhy(t, g, o, api.ErrFull)
	}
}

func TestRenameOfTwoTheFirst(t *testing.T) {
	g := all(t, laid(t), create(40, nIn, "file"), mkdir(41, nDir, "vain"))
	for _, o := range []api.Op{
		rename(nNew, nRoot, nOne, "new", nNo, "new"),     // neither
		rename(nNew, nRoot, nOne, "new", nFile, "new"),   // To is no directory
		rename(nNew, nRoot, nOne, "new", nRoot, "one"),   // the target is Ino
		rename(nNew, nDir, nOne, "one", nRoot, "one"),    // the target is Ino
		rename(nNew, nRoot, nFile, "one", nRoot, "f"),    // the target is Ino
		rename(nNew, nRoot, nDir, "new", nIn, "new"),     // To is under Ino
		rename(nNew, nRoot, nDir, "f", nDir, "new"),      // To is Ino
		rename(nNew, nRoot, nOne, "new", nRoot, "empty"), // the target is a directory
		rename(nNew, nRoot, nDir, "new", nRoot, "f"),     // the target is none
		rename(nNew, nRoot, nEmpty, "new", nRoot, "full"),
		rename(nNew, nRoot, nRoot, "new", nDir, "new"), // To is under the root
		rename(nNew, nRoot, nRoot, "new", nDir, "no"),  // where nothing is, Look tells of the root
	} {
		wantWhy(t, g, o, api.ErrNone)
	}
	for _, o := range []api.Op{
		rename(nNew, nRoot, nDir, "d", nIn, "6"),     // the target is a file
		rename(nNew, nRoot, nDir, "d", nIn, "file"),  // one that goes
		rename(nNew, nRoot, nDir, "d", nDir, "f"),    // in itself
		rename(nNew, nRoot, nDir, "d", nDir, "in"),   // a directory with entries
		rename(nNew, nRoot, nDir, "d", nIn, "deep"),  // one without
		rename(nNew, nRoot, nDir, "d", nDir, "vain"), // one without, in itself
		rename(nNew, nDir, nIn, "in", nIn, "deep"),   // one without, in itself
		rename(nNew, nDir, nIn, "in", nIn, "file"),   // a file, in itself
		rename(nNew, nRoot, nDir, "d", nDir, "d"),    // its own name, in itself
		rename(nNew, nRoot, nEmpty, "empty", nEmpty, "empty"),
	} {
		wantWhy(t, g, o, api.ErrInval)
	}
	// No directory where one with entries is, also the one from which it comes.
	for _, o := range []api.Op{rename(nNew, nRoot, nOne, "one", nRoot, "full"), rename(nNew, nRoot, nSym, "s", nRoot, "d"), rename(nNew, nFull, nBare, "bare", nRoot, "full"), rename(nNew, nIn, 40, "file", nDir, "in"), rename(nNew, nIn, 40, "file", nRoot, "d")} {
		wantWhy(t, g, o, api.ErrDir)
	}
}

func TestRenameFarDown(t *testing.T) {
	g := chain(t)
	for n := 1; n < 40; n++ {
		for to := range 40 {
			o := rename(nNew, n-1, n, "d", to, "e")
			if to >= n {
				wantWhy(t, g, o, api.ErrInval)
			} else {
				wantDone(t, g, o, read(g).untied(id(n-1), "d").tied(id(to), "e", id(n)))
			}
		}
	}
	// All that are above the last one have entries.
	for n := 1; n < 38; n++ {
		wantWhy(t, g, rename(nNew, 38, 39, "d", n-1, "d"), api.ErrFull)
	}
}

// P11.1: Write, Trunc, Setattr.

func TestFillAlone(t *testing.T) {
	g := laid(t)
	for _, o := range []api.Op{write(nNew, nNo, 0, "x"), write(nNew, nNew, 63, "x"), trunc(nNew, nNo, 0), trunc(nNew, nNew, 64), setattr(nNew, nNo, 0), setattr(nNew, nNew, 4095)} {
		wantWhy(t, g, o, api.ErrNone)
	}
	for _, n := range []int{nRoot, nDir, nIn, nDeep, nEmpty, nFull} {
		for _, o := range []api.Op{write(nNew, n, 0, "x"), write(nNew, n, 3, sixtyFour()[:61]), trunc(nNew, n, 0), trunc(nNew, n, 64)} {
			wantWhy(t, g, o, api.ErrDir)
		}
	}
	for _, n := range []int{nSym, nTwo} {
		for _, o := range []api.Op{write(nNew, n, 0, "x"), write(nNew, n, 0, sixtyFour()), trunc(nNew, n, 0), trunc(nNew, n, 3), trunc(nNew, n, 64)} {
			wantWhy(t, g, o, api.ErrInval)
		}
	}
}

// P11.2: what is done.

func TestMake(t *testing.T) {
	g := laid(t)
	for _, at := range []int{nRoot, nDir, nIn, nDeep, nEmpty, nFull} {
		for _, name := range []string{"new", "a", "zz", "12345678", "...", "\xff", " "} {
			for _, s := range []api.Stamp{id(nNew), {Time: 1, Rep: 0}, {Time: 1, Rep: 7}, {Time: 1 << 30, Rep: 7}} {
				for kind, o := range makers(nNew, at, name) {
					o.Stamp = s
					inode := api.Inode{Id: s, Kind: kind + 1, Mode: 0, Data: o.Data}
					wantDone(t, g, o, read(g).made(inode).tied(id(at), name, s))
				}
			}
		}
	}
}

func TestSymlinkHasData(t *testing.T) {
	g := laid(t)
	for _, data := range []string{"x", "/", "..", "/d/in", "nowhere", "\x01\xff\n", strings.Repeat("/a", 16)} {
		e, c := done(t, g, symlink(nNew, nDir, "new", data))
		wantErr(t, e, api.OK)
		if i, there := c.Get(id(nNew)); !there || i != (api.Inode{Id: id(nNew), Kind: api.Sym, Links: 1, Data: data}) {
			t.Fatal(i, there)
		}
	}
}

func TestLink(t *testing.T) {
	g := laid(t)
	for _, ino := range []int{nFile, nOne, nBare, nSym, nTwo} {
		for _, at := range []int{nRoot, nDir, nIn, nDeep, nEmpty, nFull} {
			wantDone(t, g, link(nNew, at, ino, "new"), read(g).tied(id(at), "new", id(ino)))
		}
	}
}

func TestUnlink(t *testing.T) {
	g := laid(t)
	// The last name.
	for _, o := range []api.Op{unlink(nNew, nRoot, nOne, "one"), unlink(nNew, nFull, nBare, "bare"), unlink(nNew, nRoot, nSym, "s")} {
		wantDone(t, g, o, read(g).untied(o.At, o.Name).dropped(o.Ino))
	}
	// One of several.
	for _, o := range []api.Op{unlink(nNew, nRoot, nFile, "f"), unlink(nNew, nDir, nFile, "f"), unlink(nNew, nRoot, nTwo, "t"), unlink(nNew, nFull, nTwo, "t"), unlink(nNew, nRoot, nSix, "6"), unlink(nNew, nRoot, nSix, "61"), unlink(nNew, nIn, nSix, "6")} {
		wantDone(t, g, o, read(g).untied(o.At, o.Name))
	}
	// One of two, and then the last one.
	for _, two := range [][2]api.Op{{unlink(nNew, nRoot, nFile, "f"), unlink(nNew, nDir, nFile, "f")}, {unlink(nNew, nFull, nTwo, "t"), unlink(nNew, nRoot, nTwo, "t")}} {
		for k := range two {
			first, last := two[k], two[1-k]
			c := wantDone(t, g, first, read(g).untied(first.At, first.Name))
			wantWhy(t, c, first, api.ErrNone)
			c = wantDone(t, c, last, read(g).untied(first.At, first.Name).untied(last.At, last.Name).dropped(last.Ino))
			wantWhy(t, c, last, api.ErrNone)
			wantWhy(t, c, setattr(nNew, int(first.Ino.Time), 0), api.ErrNone)
		}
	}
}

func TestRmdir(t *testing.T) {
	g := laid(t)
	for _, o := range []api.Op{rmdir(nNew, nRoot, nEmpty, "empty"), rmdir(nNew, nIn, nDeep, "deep")} {
		c := wantDone(t, g, o, read(g).untied(o.At, o.Name).dropped(o.Ino))
		wantWhy(t, c, o, api.ErrNone)
		for _, m := range makers(nNew, int(o.Ino.Time), "x") {
			wantWhy(t, c, m, api.ErrNone)
		}
	}
}

func TestRenameToAFreeName(t *testing.T) {
	g := laid(t)
	for _, e := range read(g).e {
		for _, to := range []int{nRoot, nDir, nIn, nDeep, nEmpty, nFull} {
			o := api.Op{Stamp: id(nNew), Kind: api.Rename, At: e.At, Ino: e.Ino, Name: e.Name, To: id(to), New: "new"}
			if read(g).kind(e.Ino) == api.Dir && read(g).under(id(to), e.Ino) {
				wantWhy(t, g, o, api.ErrInval)
				continue
			}
			wantDone(t, g, o, read(g).untied(e.At, e.Name).tied(id(to), "new", e.Ino))
		}
	}
}

func TestRenameOntoItself(t *testing.T) {
	g := laid(t)
	for _, e := range read(g).e {
		wantDone(t, g, api.Op{Stamp: id(nNew), Kind: api.Rename, At: e.At, Ino: e.Ino, Name: e.Name, To: e.At, New: e.Name}, read(g))
	}
}

func TestRenameOntoAnotherNameOfTheSame(t *testing.T) {
	g := laid(t)
	for _, a := range read(g).e {
		for _, b := range read(g).e {
			if a.Ino == b.Ino {
				wantDone(t, g, api.Op{Stamp: id(nNew), Kind: api.Rename, At: a.At, Ino: a.Ino, Name: a.Name, To: b.At, New: b.Name}, read(g))
			}
		}
	}
}

func TestRenameOntoWhatIsThere(t *testing.T) {
	g := laid(t)
	l := read(g)
	for _, x := range []struct {
		o    api.Op
		goes bool // whether the target had one name
	}{
		{rename(nNew, nRoot, nFile, "f", nRoot, "one"), true},
		{rename(nNew, nDir, nFile, "f", nFull, "bare"), true},
		{rename(nNew, nRoot, nSix, "62", nRoot, "one"), true},
		{rename(nNew, nRoot, nOne, "one", nRoot, "s"), true},
		{rename(nNew, nRoot, nSym, "s", nRoot, "one"), true},
		{rename(nNew, nFull, nTwo, "t", nRoot, "s"), true},
		{rename(nNew, nRoot, nOne, "one", nRoot, "f"), false},
		{rename(nNew, nRoot, nOne, "one", nDir, "f"), false},
		{rename(nNew, nRoot, nOne, "one", nIn, "6"), false},
		{rename(nNew, nRoot, nSym, "s", nFull, "t"), false},
		{rename(nNew, nRoot, nFile, "f", nDir, "6"), false},
		{rename(nNew, nRoot, nSix, "6", nDir, "f"), false},
		{rename(nNew, nRoot, nDir, "d", nRoot, "empty"), true},
		{rename(nNew, nRoot, nFull, "full", nRoot, "empty"), true},
		{rename(nNew, nRoot, nEmpty, "empty", nIn, "deep"), true},
		{rename(nNew, nIn, nDeep, "deep", nRoot, "empty"), true},
		{rename(nNew, nDir, nIn, "in", nRoot, "empty"), true},
	} {
		o := x.o
		target, _ := l.entry(o.To, o.New)
		want := l.untied(o.To, o.New).untied(o.At, o.Name).tied(o.To, o.New, o.Ino)
		if x.goes {
			want = want.dropped(target)
		}
		wantDone(t, g, o, want)
	}
}

func TestRenameKeepsWhatMoves(t *testing.T) {
	g := all(t, laid(t), rename(nNew, nRoot, nDir, "d", nEmpty, "moved"))
	for _, x := range []struct {
		at, ino int
		name    string
	}{{nEmpty, nDir, "moved"}, {nDir, nIn, "in"}, {nIn, nDeep, "deep"}, {nDir, nFile, "f"}} {
		if ino, there := g.Look(id(x.at), x.name); !there || ino != id(x.ino) {
			t.Fatal(x, ino, there)
		}
	}
	if _, there := g.Look(id(nRoot), "d"); there {
		t.Fatal("d")
	}
	if i, _ := g.Get(id(nDir)); i != (api.Inode{Id: id(nDir), Kind: api.Dir, Links: 1, Mode: 7}) {
		t.Fatal(i)
	}
	// In it, and out of it again.
	wantWhy(t, g, rename(nNew, nRoot, nEmpty, "empty", nDeep, "x"), api.ErrInval)
	wantWhy(t, g, rename(nNew, nRoot, nFull, "full", nDeep, "x"), api.OK)
	wantWhy(t, g, rename(nNew, nIn, nDeep, "deep", nRoot, "deep"), api.OK)
}

func TestRenameNeedsNoRoom(t *testing.T) {
	g := crowded(t)
	wantDone(t, g, rename(nDir, nRoot, nOne, "one", nDir, "new"), read(g).untied(id(nRoot), "one").tied(id(nDir), "new", id(nOne)))
	wantDone(t, g, rename(nOne, nRoot, nSix, "6", nDeep, "6"), read(g).untied(id(nRoot), "6").tied(id(nDeep), "6", id(nSix)))
}

func TestWrite(t *testing.T) {
	g := laid(t)
	z := strings.Repeat("\x00", 64)
	for _, x := range []struct {
		ino, off   int
		data, want string
	}{
		{nFile, 0, "T", "Text"},
		{nFile, 1, "oas", "toas"},
		{nFile, 2, "\x00", "te\x00t"},
		{nFile, 3, "ted", "texted"},
		{nFile, 4, "s", "texts"},
		{nFile, 5, "!", "text\x00!"},
		{nFile, 63, "!", "text" + z[:59] + "!"},
		{nFile, 0, sixtyFour(), sixtyFour()},
		{nFile, 4, sixtyFour()[4:], "text" + sixtyFour()[4:]},
		{nFile, 0, "other words", "other words"},
		{nOne, 0, "x", "x" + sixtyFour()[1:]},
		{nOne, 63, "x", sixtyFour()[:63] + "x"},
		{nOne, 30, "xyz", sixtyFour()[:30] + "xyz" + sixtyFour()[33:]},
		{nOne, 0, z, z},
		{nBare, 0, "x", "x"},
		{nBare, 1, "x", "\x00x"},
		{nBare, 63, "\x00", z},
		{nBare, 0, sixtyFour(), sixtyFour()},
		{nSix, 1, "7", "67"},
	} {
		wantDone(t, g, write(nNew, x.ino, x.off, x.data), read(g).turned(id(x.ino), func(i *api.Inode) { i.Data = x.want }))
	}
}

func TestTrunc(t *testing.T) {
	g := laid(t)
	z := strings.Repeat("\x00", 64)
	for _, x := range []struct {
		ino, size int
		want      string
	}{
		{nFile, 0, ""}, {nFile, 1, "t"}, {nFile, 3, "tex"}, {nFile, 4, "text"}, {nFile, 5, "text\x00"}, {nFile, 64, "text" + z[:60]},
		{nOne, 0, ""}, {nOne, 63, sixtyFour()[:63]}, {nOne, 64, sixtyFour()},
		{nBare, 0, ""}, {nBare, 1, "\x00"}, {nBare, 64, z},
	} {
		wantDone(t, g, trunc(nNew, x.ino, x.size), read(g).turned(id(x.ino), func(i *api.Inode) { i.Data = x.want }))
	}
}

func TestSetattr(t *testing.T) {
	g := laid(t)
	for n := nRoot; n <= nTwo; n++ {
		for _, mode := range []int{0, 1, 420, 511, 4094, 4095} {
			wantDone(t, g, setattr(nNew, n, mode), read(g).turned(id(n), func(i *api.Inode) { i.Mode = mode }))
		}
	}
}

func TestAllStampsOfWhatMakesNothing(t *testing.T) {
	// The Stamp of an operation that makes nothing may be an inode's, also that of which it is.
	for _, o := range good()[3:] {
		_, want := done(t, laid(t), o)
		for n := nDir; n <= nTwo; n++ {
			o.Stamp = id(n)
			wantDone(t, laid(t), o, read(want))
		}
	}
}

// P11.3: all operations on a graph of all sorts, whatever they name.

// stampsAsked are inodes of each sort, and none.
func stampsAsked() []int {
	return []int{nRoot, nDir, nIn, nDeep, nEmpty, nFull, nFile, nOne, nSix, nSym, nNo}
}

func namesAsked() []string {
	return []string{"d", "in", "deep", "empty", "f", "one", "6", "s", "new"}
}

// asked are operations of each kind but Rename, with each inode and each name.
func asked() []api.Op {
	var l []api.Op
	for _, at := range stampsAsked() {
		for _, name := range namesAsked() {
			for _, n := range []int{nNew, nDir, nFile, nSym} {
				l = append(l, makers(n, at, name)...)
			}
			for _, ino := range stampsAsked() {
				l = append(l, link(nNew, at, ino, name), unlink(nNew, at, ino, name), rmdir(nNew, at, ino, name))
			}
		}
		for _, off := range []int{0, 1, 4, 5, 63, 64} {
			l = append(l, trunc(nNew, at, off), setattr(nNew, at, off))
			if off < 64 {
				l = append(l, write(nNew, at, off, "x"))
			}
		}
	}
	return l
}

// askedRenames are renames of each entry, and of some that are none.
func askedRenames(g *graph.Graph) []api.Op {
	var l []api.Op
	for _, e := range append(g.Entries(), strayed()...) {
		for _, to := range stampsAsked() {
			for _, name := range namesAsked() {
				l = append(l, api.Op{Stamp: id(nNew), Kind: api.Rename, At: e.At, Ino: e.Ino, Name: e.Name, To: id(to), New: name})
			}
		}
	}
	return l
}

func TestAllOperations(t *testing.T) {
	for _, g := range []*graph.Graph{laid(t), crowded(t), graph.New()} {
		for _, o := range append(asked(), askedRenames(g)...) {
			done(t, g, o)
		}
	}
}

// TestAllRows does all rows of three operations to a graph of the root alone.
func TestAllRows(t *testing.T) {
	pool := []api.Op{
		mkdir(1, 0, "a"), mkdir(2, 0, "b"), mkdir(3, 1, "c"), mkdir(4, 2, "a"), create(5, 0, "a"), create(5, 1, "f"), symlink(6, 0, "b", "a"), link(7, 1, 5, "a"), link(7, 0, 5, "g"), link(7, 0, 1, "g"),
		unlink(8, 0, 5, "a"), unlink(8, 1, 5, "f"), unlink(8, 0, 1, "a"), unlink(8, 0, 6, "b"), rmdir(9, 0, 1, "a"), rmdir(9, 0, 2, "b"), rmdir(9, 1, 3, "c"), rmdir(9, 0, 5, "a"),
		rename(10, 0, 1, "a", 2, "a"), rename(10, 0, 2, "b", 1, "c"), rename(10, 0, 1, "a", 0, "b"), rename(10, 0, 2, "b", 0, "a"), rename(10, 0, 5, "a", 1, "f"), rename(10, 1, 5, "f", 0, "a"), rename(10, 0, 5, "a", 0, "g"), rename(10, 1, 3, "c", 0, "a"), rename(10, 0, 1, "a", 3, "x"),
		write(11, 5, 1, "x"), trunc(12, 5, 1), setattr(13, 1, 5), setattr(13, 0, 6),
	}
	for _, a := range pool {
		_, g1 := done(t, graph.New(), a)
		for _, b := range pool {
			_, g2 := done(t, g1, b)
			for _, c := range pool {
				done(t, g2, c)
			}
		}
	}
}

// some picks one of a list.
func some[T any](r *rand.Rand, l []T) T {
	return l[r.IntN(len(l))]
}

// drawn is an operation of things that a graph has, or hasn't.
func drawn(r *rand.Rand, l lists, kind int, names []string) api.Op {
	inode := func() api.Stamp {
		if r.IntN(15) == 0 {
			return id(nNo)
		}
		return some(r, l.n).Id
	}
	dir := func() api.Stamp {
		for range 5 {
			if at := inode(); l.kind(at) == api.Dir {
				return at
			}
		}
		return inode()
	}
	o := api.Op{Stamp: id(1 + r.IntN(60)), Kind: kind}
	switch kind {
	case api.Mkdir, api.Create, api.Symlink:
		o.At, o.Name = dir(), some(r, names)
	case api.Link:
		o.At, o.Ino, o.Name = dir(), inode(), some(r, names)
	case api.Unlink, api.Rmdir, api.Rename:
		o.At, o.Ino, o.Name = dir(), inode(), some(r, names)
		if len(l.e) > 0 && r.IntN(10) > 0 {
			e := some(r, l.e)
			o.At, o.Ino, o.Name = e.At, e.Ino, e.Name
		}
	case api.Write:
		o.Ino = inode()
	case api.Trunc:
		o.Ino, o.Off = inode(), r.IntN(65)
	case api.Setattr:
		o.Ino, o.Off = inode(), r.IntN(4096)
	}
	if kind == api.Rename {
		o.To, o.New = dir(), some(r, names)
	}
	if kind == api.Symlink || kind == api.Write {
		o.Data = sixtyFour()[:1+r.IntN(12)]
	}
	if kind == api.Write {
		o.Off = r.IntN(65 - len(o.Data))
	}
	return o
}

// answer is what was told of an operation of a kind.
type answer struct {
	kind int
	e    api.Errno
}

// walk does operations of some kinds to a graph, one behind the other, and tells how often each answer came.
func walk(t testing.TB, r *rand.Rand, g *graph.Graph, steps int, kinds []int, names []string, told map[answer]int) *graph.Graph {
	t.Helper()
	for range steps {
		o := drawn(r, read(g), some(r, kinds), names)
		var e api.Errno
		e, g = done(t, g, o)
		told[answer{o.Kind, e}]++
	}
	return g
}

func TestLongRows(t *testing.T) {
	r := rand.New(rand.NewPCG(11, 1))
	told := map[answer]int{}
	for k := range 60 {
		names := []string{"a", "b", "c", "d", "e", "f"}[:2+k%5]
		kinds := []int{1, 2, 3, 4, 5, 6, 7, 8, 9, 10}
		if k%3 == 0 {
			kinds = []int{1, 1, 1, 2, 2, 3, 4, 4, 4, 7, 10}
		}
		walk(t, r, graph.New(), 250, kinds, names, told)
	}
	for range 5 {
		walk(t, r, crowded(t), 60, []int{1, 2, 3, 4, 5, 7}, []string{"d", "empty", "f", "x", "y", "z"}, told)
		walk(t, r, laid(t), 60, []int{4, 4, 4, 5}, []string{"k", "l", "m", "n"}, told)
	}
	// Whatever may be told of a kind came at some time, and nothing else.
	may := map[int][]api.Errno{
		1: {0, 3, 4, 6, 13}, 2: {0, 3, 4, 6, 13}, 3: {0, 3, 4, 6, 13}, 4: {0, 3, 4, 5, 6, 12}, 5: {0, 3, 5}, 6: {0, 3, 6, 7}, 7: {0, 3, 5, 6, 7, 8}, 8: {0, 3, 5, 8}, 9: {0, 3, 5, 8}, 10: {0, 3},
	}
	for kind, l := range may {
		for e := api.OK; e <= api.ErrOver; e++ {
			if many := told[answer{kind, e}]; slices.Contains(l, e) != (many > 0) {
				t.Errorf("error %d of kind %d: %d times", e, kind, many)
			}
		}
	}
}

func TestDirectoriesThatMoveIntoEachOther(t *testing.T) {
	r := rand.New(rand.NewPCG(11, 2))
	told := map[answer]int{}
	for range 25 {
		g := graph.New()
		for n := 1; n <= 8; n++ {
			g = all(t, g, mkdir(n, r.IntN(n), strconv.Itoa(n)))
		}
		g = walk(t, r, g, 200, []int{api.Rename}, []string{"1", "2", "3", "4", "a", "b"}, told)
		walk(t, r, g, 100, []int{api.Rename, api.Rename, api.Mkdir, api.Rmdir}, []string{"1", "2", "3"}, told)
	}
	for _, e := range []api.Errno{api.OK, api.ErrNone, api.ErrFull, api.ErrInval} {
		if told[answer{api.Rename, e}] < 20 {
			t.Error(e, told)
		}
	}
}

func TestNamesThatGoAndComeAgain(t *testing.T) {
	r := rand.New(rand.NewPCG(11, 3))
	told := map[answer]int{}
	for range 25 {
		walk(t, r, graph.New(), 250, []int{api.Mkdir, api.Create, api.Symlink, api.Link, api.Unlink, api.Unlink, api.Rmdir, api.Rename}, []string{"a", "b"}, told)
	}
	for kind := api.Mkdir; kind <= api.Rename; kind++ {
		if told[answer{kind, api.OK}] < 20 {
			t.Error(kind, told)
		}
	}
}

// R4: the answers hang on nothing that was asked before.

func TestNothingIsKept(t *testing.T) {
	r := rand.New(rand.NewPCG(11, 4))
	g, other := laid(t), crowded(t)
	pool := append(append(good(), spoiled()...), asked()...)
	pool = append(pool, askedRenames(g)[:500]...)
	first := make([]api.Errno, len(pool))
	for k, o := range pool {
		first[k] = Why(g, o)
	}
	was := read(g)
	for range 3 {
		for _, k := range r.Perm(len(pool)) {
			wantErr(t, Why(g, pool[k]), first[k])
			if r.IntN(2) == 0 {
				Do(other, some(r, pool))
			}
			if r.IntN(8) == 0 {
				Why(nil, some(r, pool))
				Do(g.Copy(), some(r, pool))
			}
		}
	}
	wantLists(t, "behind all", read(g), was)
}

func TestRowsDoneAgainEndAlike(t *testing.T) {
	r := rand.New(rand.NewPCG(11, 5))
	for range 20 {
		g, row := graph.New(), []api.Op{}
		for range 80 {
			o := drawn(r, read(g), 1+r.IntN(10), []string{"a", "b", "c"})
			row = append(row, o)
			Do(g, o)
		}
		again, middle := graph.New(), graph.New()
		for k, o := range row {
			if k == 40 {
				middle = again.Copy()
			}
			Do(again, o)
		}
		wantLists(t, "done again", read(again), read(g))
		for _, o := range row[40:] {
			Do(middle, o)
		}
		wantLists(t, "from a copy on", read(middle), read(g))
	}
}

// P1: graphs that aren't fine, of which nothing else is promised.

// unfine are graphs of which audit tells faults: loose inodes, too much data, symbolic links without any, no root.
func unfine(t *testing.T) []*graph.Graph {
	t.Helper()
	loose := laid(t)
	for n, kind := range []int{api.Dir, api.File, api.Sym, api.Dir} {
		wantErr(t, loose.Make(id(50+n), kind), api.OK)
	}
	wantErr(t, loose.Tie(api.Entry{At: id(50), Name: "in", Ino: id(53)}), api.OK)
	big := laid(t)
	for n := range nTwo + 1 {
		wantErr(t, big.Set(id(n), -1, strings.Repeat("x", 65+n*100)), api.OK)
	}
	return []*graph.Graph{{}, loose, big}
}

func TestGraphsThatAreNotFine(t *testing.T) {
	for _, g := range unfine(t) {
		if read(g).fine() {
			t.Fatal(read(g))
		}
		pool := append(append(good(), spoiled()...), asked()...)
		for _, n := range []int{50, 51, 52, 53} {
			pool = append(pool, makers(nNew, n, "new")...)
			pool = append(pool, link(nNew, nRoot, n, "new"), unlink(nNew, 50, n, "in"), rmdir(nNew, 50, n, "in"), rename(nNew, 50, n, "in", nRoot, "new"), rename(nNew, nRoot, nDir, "d", n, "new"), write(nNew, n, 60, "xxxx"), trunc(nNew, n, 64), setattr(nNew, n, 1))
		}
		for _, o := range append(pool, askedRenames(g)...) {
			was := read(g)
			c := g.Copy()
			why := Why(c, o)
			wantErr(t, Do(c, o), why)
			if why != api.OK {
				wantLists(t, "behind an error", read(c), was)
			}
			wantLists(t, "what was copied", read(g), was)
		}
	}
}

// P1, P11.3: whatever comes, it ends, and the graph is fine.

// decoded is an operation of eight bytes, which may be or not.
func decoded(b []byte) api.Op {
	names := []string{"a", "b", "c", "d", "", ".", "a/", "12345678"}
	stamp := func(x byte) api.Stamp { return id(int(x % 16)) }
	o := api.Op{Stamp: stamp(b[0]), Kind: int(b[1] % 12), At: stamp(b[2]), Ino: stamp(b[3]), To: stamp(b[4]), Name: names[b[5]%8], New: names[b[5]/8%8], Off: int(b[6])%68 - 1, Data: sixtyFour()[:b[7]%65]}
	if b[7] >= 128 {
		// Often as it would be with the fields alone that its kind has.
		switch o.Kind {
		case 1, 2:
			return api.Op{Stamp: o.Stamp, Kind: o.Kind, At: o.At, Name: o.Name}
		case 3:
			return api.Op{Stamp: o.Stamp, Kind: o.Kind, At: o.At, Name: o.Name, Data: o.Data}
		case 4, 5, 6:
			return api.Op{Stamp: o.Stamp, Kind: o.Kind, At: o.At, Ino: o.Ino, Name: o.Name}
		case 7:
			return api.Op{Stamp: o.Stamp, Kind: o.Kind, At: o.At, Ino: o.Ino, To: o.To, Name: o.Name, New: o.New}
		case 8:
			return api.Op{Stamp: o.Stamp, Kind: o.Kind, Ino: o.Ino, Off: o.Off, Data: o.Data}
		case 9, 10:
			return api.Op{Stamp: o.Stamp, Kind: o.Kind, Ino: o.Ino, Off: o.Off}
		}
	}
	return o
}

func FuzzDo(f *testing.F) {
	f.Add([]byte{})
	f.Add([]byte{1, 1, 0, 0, 0, 0, 0, 128, 2, 1, 1, 0, 0, 1, 0, 128, 3, 7, 0, 1, 2, 8, 0, 128})
	f.Add([]byte{1, 2, 0, 0, 0, 0, 0, 128, 2, 4, 0, 1, 0, 1, 0, 128, 3, 8, 0, 1, 0, 0, 5, 140, 4, 5, 0, 1, 0, 0, 0, 128, 5, 5, 0, 1, 0, 1, 0, 128})
	f.Add([]byte{1, 1, 0, 0, 0, 0, 0, 128, 2, 1, 0, 0, 0, 1, 0, 128, 3, 7, 0, 1, 2, 0, 0, 128, 4, 7, 0, 2, 1, 1, 0, 128, 5, 6, 2, 1, 0, 0, 0, 128})
	f.Fuzz(func(t *testing.T, b []byte) {
		g := graph.New()
		for ; len(b) >= 8; b = b[8:] {
			_, g = done(t, g, decoded(b))
		}
	})
}
