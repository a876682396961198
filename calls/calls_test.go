package calls

import (
	"cmp"
	"fmt"
	"math"
	"math/rand/v2"
	"reflect"
	"slices"
	"strings"
	"testing"

	"thimble/api"
	"thimble/apply"
	"thimble/audit"
	"thimble/graph"
	"thimble/op"
)

// A plain file system: nodes that point at each other. It does what the chapter's words say, without numbers of inodes, and without operations.

// node is an inode; a directory has its names, and the directory that it is in (the root itself).
type node struct {
	id         api.Stamp
	kind, mode int
	data       string
	names      map[string]*node
	up         *node
}

// plainOf is the root of a graph that is fine.
func plainOf(g *graph.Graph) *node {
	all := map[api.Stamp]*node{}
	for _, i := range g.Inodes() {
		all[i.Id] = &node{id: i.Id, kind: i.Kind, mode: i.Mode, data: i.Data, names: map[string]*node{}}
	}
	for _, e := range g.Entries() {
		all[e.At].names[e.Name] = all[e.Ino]
		all[e.Ino].up = all[e.At]
	}
	root := all[api.Stamp{}]
	root.up = root
	return root
}

func aheadStamp(a, b api.Stamp) int {
	return cmp.Or(cmp.Compare(a.Time, b.Time), cmp.Compare(a.Rep, b.Rep))
}

// lists are all inodes and entries that are below the root, as a graph tells them.
func (root *node) lists() ([]api.Inode, []api.Entry) {
	links := map[*node]int{root: 0}
	var n []api.Inode
	var e []api.Entry
	var down func(dir *node)
	down = func(dir *node) {
		for name, of := range dir.names {
			e = append(e, api.Entry{At: dir.id, Name: name, Ino: of.id})
			links[of]++
			if of.kind == 1 {
				down(of)
			}
		}
	}
	down(root)
	for of, many := range links {
		n = append(n, of.inode(many))
	}
	slices.SortFunc(n, func(a, b api.Inode) int { return aheadStamp(a.Id, b.Id) })
	slices.SortFunc(e, func(a, b api.Entry) int { return cmp.Or(aheadStamp(a.At, b.At), strings.Compare(a.Name, b.Name)) })
	return n, e
}

func (n *node) inode(links int) api.Inode {
	return api.Inode{Id: n.id, Kind: n.kind, Links: links, Mode: n.mode, Data: n.data}
}

// told is the inode as a graph tells it.
func (root *node) told(n *node) api.Inode {
	l, _ := root.lists()
	return l[slices.IndexFunc(l, func(i api.Inode) bool { return i.Id == n.id })]
}

func (n *node) is(kind int) bool {
	return n != nil && n.kind == kind
}

func (n *node) under(dir *node) bool {
	for ; n != dir; n = n.up {
		if n == n.up {
			return false
		}
	}
	return true
}

// spot is where a path leads: the node, and its name in a directory; no directory, if by no name; no node, if it isn't there.
type spot struct {
	dir  *node
	name string
	at   *node
}

// number is the number of the node there.
func (s spot) number() api.Stamp {
	if s.at == nil {
		return api.Stamp{}
	}
	return s.at.id
}

// split goes a path byte by byte.
func split(p string) ([]string, api.Errno) {
	var parts []string
	part, isZero, isLong := "", false, len(p) > 128
	for i := range len(p) + 1 {
		if i < len(p) && p[i] != 47 {
			part += p[i : i+1]
			isZero = isZero || p[i] == 0
			continue
		}
		isLong = isLong || len(part) > 8
		if part != "" && part != "." {
			parts = append(parts, part)
		}
		part = ""
	}
	switch {
	case p == "":
		return nil, 3
	case isLong:
		return nil, 10
	case isZero:
		return nil, 1
	}
	return parts, 0
}

// through is where a spot leads, if it is a link's; links are how many were followed.
func (root *node) through(s spot, links *int) (spot, api.Errno) {
	if !s.at.is(3) {
		return s, 0
	}
	if *links++; *links > 40 {
		return spot{}, 9
	}
	return root.lead(s.dir, s.at.data, true, links)
}

// lead is where a path leads from a directory.
func (root *node) lead(dir *node, p string, follow bool, links *int) (spot, api.Errno) {
	parts, e := split(p)
	if e != 0 {
		return spot{}, e
	}
	s := spot{at: dir}
	if p[0] == 47 {
		s.at = root
	}
	for _, part := range parts {
		s, e = root.through(s, links)
		switch {
		case e != 0:
			return spot{}, e
		case s.at == nil:
			return spot{}, 3
		case s.at.kind != 1:
			return spot{}, 6
		case part == "..":
			s = spot{at: s.at.up}
		default:
			s = spot{s.at, part, s.at.names[part]}
		}
	}
	if !follow {
		return s, 0
	}
	return root.through(s, links)
}

func (root *node) find(p string, follow bool) (spot, api.Errno) {
	links := 0
	return root.lead(root, p, follow, &links)
}

// of tells whether a kind is one of several.
func of(kind int, l ...int) bool {
	return slices.Contains(l, kind)
}

// both are where a call's two paths lead.
func (root *node) both(c Call) (one, other spot, e1, e2 api.Errno) {
	one, e1 = root.find(c.Path, of(c.Kind, 8, 9, 10, 11, 12, 13))
	other, e2 = root.find(c.Other, false)
	return one, other, e1, e2
}

// line is a thing that may be wrong, and its error.
type line struct {
	is bool
	e  api.Errno
}

// firstOf is the error of the first thing that is wrong.
func firstOf(l ...line) api.Errno {
	for _, x := range l {
		if x.is {
			return x.e
		}
	}
	return 0
}

// why tells the first thing that is wrong with a call that changes, of a stamp that may be.
func (root *node) why(c Call, s api.Stamp) api.Errno {
	k := c.Kind
	one, other, e1, e2 := root.both(c)
	e := firstOf(
		line{k < 1 || k > 10, 1},
		line{of(k, 3, 8) && c.Data == "", 1},
		line{of(k, 3) && strings.Contains(c.Data, "\x00"), 1},
		line{of(k, 8, 9) && c.Off < 0, 1},
		line{of(k, 10) && (c.Off < 0 || c.Off > 4095), 1},
		line{of(k, 3) && len(c.Data) > 32, 10},
		line{of(k, 8, 9) && c.Off > 64, 11},
		line{of(k, 8) && c.Off+len(c.Data) > 64, 11},
		line{e1 != 0, e1},
		line{!of(k, 1, 2, 3) && one.at == nil, 3},
		line{of(k, 1, 2, 3) && one.dir == nil, 4},
		line{of(k, 5) && one.dir == nil, 5},
		line{of(k, 6, 7) && one.dir == nil, 8},
		line{of(k, 4, 7) && e2 != 0, e2},
		line{of(k, 4, 7) && other.dir == nil, 4},
	)
	if e != 0 {
		return e
	}
	return root.whyNot(k, one, other, s)
}

// whyNot tells the first thing for which what has right arguments and paths can't be done.
func (root *node) whyNot(k int, one, other spot, s api.Stamp) api.Errno {
	inodes, _ := root.lists()
	isStamp := slices.ContainsFunc(inodes, func(i api.Inode) bool { return i.Id == s })
	switch k {
	case 1, 2, 3:
		return firstOf(line{one.at != nil || isStamp, 4}, line{len(inodes) == 40, 13})
	case 4:
		return firstOf(line{one.at.is(1), 5}, line{other.at != nil, 4}, line{root.told(one.at).Links == 6, 12})
	case 5:
		return firstOf(line{one.at.is(1), 5})
	case 6:
		return firstOf(line{!one.at.is(1), 6}, line{len(one.at.names) > 0, 7})
	case 7:
		return firstOf(
			line{one.at == other.at, 0},
			line{one.at.is(1) && other.dir.under(one.at), 8},
			line{other.at == nil, 0},
			line{other.at.is(1) && !one.at.is(1), 5},
			line{one.at.is(1) && !other.at.is(1), 6},
			line{other.at.is(1) && len(other.at.names) > 0, 7},
		)
	case 8, 9:
		return firstOf(line{one.at.is(1), 5})
	}
	return 0
}

// plan is the operation of a call, field by field.
func (root *node) plan(c Call, s api.Stamp) (api.Op, api.Errno) {
	if e := root.why(c, s); e != 0 {
		return api.Op{}, e
	}
	k := c.Kind
	one, other, _, _ := root.both(c)
	o := api.Op{Stamp: s, Kind: k}
	if of(k, 1, 2, 3, 5, 6, 7) {
		o.At, o.Name = one.dir.id, one.name
	}
	if of(k, 4) {
		o.At, o.Name = other.dir.id, other.name
	}
	if of(k, 7) {
		o.To, o.New = other.dir.id, other.name
	}
	if !of(k, 1, 2, 3) {
		o.Ino = one.number()
	}
	if of(k, 8, 9, 10) {
		o.Off = c.Off
	}
	if of(k, 3, 8) {
		o.Data = c.Data
	}
	return o, 0
}

// do does what a call that changes wants.
func (root *node) do(c Call, s api.Stamp) {
	one, other, _, _ := root.both(c)
	switch c.Kind {
	case 1, 2, 3:
		n := &node{id: s, kind: c.Kind, names: map[string]*node{}, up: one.dir}
		if c.Kind == 3 {
			n.data = c.Data
		}
		one.dir.names[one.name] = n
	case 4:
		other.dir.names[other.name] = one.at
	case 5, 6:
		delete(one.dir.names, one.name)
	case 7:
		if one.at != other.at {
			delete(one.dir.names, one.name)
			other.dir.names[other.name] = one.at
			one.at.up = other.dir
		}
	case 8:
		b := []byte(one.at.data)
		for len(b) < c.Off+len(c.Data) {
			b = append(b, 0)
		}
		for i := range len(c.Data) {
			b[c.Off+i] = c.Data[i]
		}
		one.at.data = string(b)
	case 9:
		one.at.data = (one.at.data + strings.Repeat("\x00", 64))[:c.Off]
	case 10:
		one.at.mode = c.Off
	}
}

// ask is what a call that asks is told.
func (root *node) ask(c Call) (Answer, api.Errno) {
	k := c.Kind
	one, _, e1, _ := root.both(c)
	e := firstOf(
		line{!of(k, 11, 12, 13, 14), 1},
		line{of(k, 13) && (c.Off < 0 || c.Many < 0), 1},
		line{e1 != 0, e1},
		line{one.at == nil, 3},
		line{of(k, 11) && !one.at.is(1), 6},
		line{of(k, 13) && one.at.is(1), 5},
		line{of(k, 14) && !one.at.is(3), 8},
	)
	if e != 0 {
		return Answer{}, e
	}
	var a Answer
	switch k {
	case 11:
		for name := range one.at.names {
			a.Names = append(a.Names, name)
		}
		slices.Sort(a.Names)
	case 12:
		a.Inode = root.told(one.at)
	case 13:
		for i := range len(one.at.data) {
			if i >= c.Off && i-c.Off < c.Many {
				a.Data += one.at.data[i : i+1]
			}
		}
	case 14:
		a.Data = one.at.data
	}
	return a, 0
}

// What a test asks, and how it holds that against the plain file system.

func sameAnswers(a, b Answer) bool {
	return slices.Equal(a.Names, b.Names) && a.Inode == b.Inode && a.Data == b.Data
}

func sameGraphs(a, b *graph.Graph) bool {
	return slices.Equal(a.Inodes(), b.Inodes()) && slices.Equal(a.Entries(), b.Entries())
}

func shown(g *graph.Graph) string {
	return fmt.Sprintf("in %+v\n%+v", g.Inodes(), g.Entries())
}

// planned plans, holds that against the plain one, and looks that nothing was changed, and that what is planned may be.
func planned(t testing.TB, g *graph.Graph, c Call, s api.Stamp) (api.Op, api.Errno) {
	t.Helper()
	was := g.Copy()
	o, e := Plan(g, c, s)
	if want, wantE := plainOf(was).plan(c, s); o != want || e != wantE {
		t.Fatalf("Plan of %+v, %v: %+v, error %d; want %+v, error %d\n%s", c, s, o, e, want, wantE, shown(was))
	}
	if !reflect.DeepEqual(g, was) {
		t.Fatalf("Plan of %+v changes the graph:\n%s\nwas %s", c, shown(g), shown(was))
	}
	if e != 0 && o != (api.Op{}) {
		t.Fatalf("Plan of %+v: %+v with error %d", c, o, e)
	}
	if e == 0 && (!op.May(o) || o.Stamp != s || o.Kind != c.Kind) {
		t.Fatalf("Plan of %+v: %+v may not be", c, o)
	}
	return o, e
}

// asked asks, holds that against the plain one, and looks that nothing was changed.
func asked(t testing.TB, g *graph.Graph, c Call) (Answer, api.Errno) {
	t.Helper()
	was := g.Copy()
	a, e := Ask(g, c)
	if want, wantE := plainOf(was).ask(c); !sameAnswers(a, want) || e != wantE {
		t.Fatalf("Ask of %+v: %+v, error %d; want %+v, error %d\n%s", c, a, e, want, wantE, shown(was))
	}
	if !reflect.DeepEqual(g, was) {
		t.Fatalf("Ask of %+v changes the graph:\n%s\nwas %s", c, shown(g), shown(was))
	}
	if e != 0 && !sameAnswers(a, Answer{}) {
		t.Fatalf("Ask of %+v: %+v with error %d", c, a, e)
	}
	return a, e
}

// done is a copy of a graph to which what is planned was done; it is as the plain one is behind that call.
func done(t testing.TB, g *graph.Graph, c Call, s api.Stamp) (*graph.Graph, api.Errno) {
	t.Helper()
	o, e := planned(t, g, c, s)
	if e != 0 {
		return g, e
	}
	next := g.Copy()
	if e := apply.Do(next, o); e != 0 {
		t.Fatalf("%+v, planned for %+v, can't be done: error %d\n%s", o, c, e, shown(g))
	}
	plain := plainOf(g)
	plain.do(c, s)
	if n, l := plain.lists(); !slices.Equal(next.Inodes(), n) || !slices.Equal(next.Entries(), l) {
		t.Fatalf("behind %+v, done by %+v:\n%s\nwant %+v\n%+v", c, o, shown(next), n, l)
	}
	if !audit.Fine(next.Inodes(), next.Entries()) {
		t.Fatalf("behind %+v, done by %+v, it isn't fine:\n%s", c, o, shown(next))
	}
	return next, 0
}

// told is the error of any call, held against the plain one.
func told(t testing.TB, g *graph.Graph, c Call) api.Errno {
	t.Helper()
	if of(c.Kind, 11, 12, 13, 14) {
		_, e := asked(t, g, c)
		return e
	}
	_, e := planned(t, g, c, id(nNew))
	return e
}

func wantTold(t testing.TB, g *graph.Graph, c Call, want api.Errno) {
	t.Helper()
	if e := told(t, g, c); e != want {
		t.Fatalf("%+v: error %d; want %d", c, e, want)
	}
}

func wantPlan(t testing.TB, g *graph.Graph, c Call, want api.Op) {
	t.Helper()
	want.Stamp, want.Kind = id(nNew), c.Kind
	if o, e := planned(t, g, c, id(nNew)); o != want || e != 0 {
		t.Fatalf("Plan of %+v: %+v, error %d; want %+v", c, o, e, want)
	}
	done(t, g, c, id(nNew))
}

func wantAsk(t testing.TB, g *graph.Graph, c Call, want Answer) {
	t.Helper()
	if a, e := asked(t, g, c); !sameAnswers(a, want) || e != 0 {
		t.Fatalf("Ask of %+v: %+v, error %d; want %+v", c, a, e, want)
	}
}

// The graph of most tests.

const (
	nRoot = iota
	nD
	nE
	nF
	nEmpty
	nFull
	nX
	nFile
	nSix
	nL
	nAbs
	nM
	nTo
	nDead
	nFar
	nLoop
	nTop
	nUp
	nHere
	nLong
	nZero
	nBig
	nNew
)

// id is a number that may be an inode's; they neither rise nor fall with n.
func id(n int) api.Stamp {
	if n == nRoot {
		return api.Stamp{}
	}
	return api.Stamp{Time: int64(n * 37 % 101), Rep: n % 8}
}

// thing is an inode, and its first entry.
type thing struct {
	n, at int
	name  string
	kind  int
	data  string
}

func sixtyFour() string {
	return "0123456789abcdefghijklmnopqrstuvwxyzABCDEFGHIJKLMNOPQRSTUVWXYZ+-"
}

func things() []thing {
	return []thing{
		{nD, nRoot, "d", api.Dir, ""},
		{nE, nD, "e", api.Dir, ""},
		{nF, nE, "f", api.File, "text"},
		{nEmpty, nRoot, "empty", api.Dir, ""},
		{nFull, nRoot, "full", api.Dir, ""},
		{nX, nFull, "x", api.File, ""},
		{nFile, nRoot, "file", api.File, "0123456789"},
		{nSix, nRoot, "six", api.File, "6"},
		{nL, nRoot, "l", api.Sym, "d/e"},
		{nAbs, nD, "abs", api.Sym, "/full"},
		{nM, nRoot, "m", api.Sym, "l/f"},
		{nTo, nE, "to", api.Sym, "../../m"},
		{nDead, nRoot, "dead", api.Sym, "d/no"},
		{nFar, nRoot, "far", api.Sym, "no/no"},
		{nLoop, nRoot, "loop", api.Sym, "loop"},
		{nTop, nE, "top", api.Sym, "/"},
		{nUp, nE, "up", api.Sym, ".."},
		{nHere, nRoot, "here", api.Sym, "."},
		{nLong, nRoot, "long", api.Sym, "d/123456789"},
		{nZero, nRoot, "zero", api.Sym, "d/\x00"},
		{nBig, nFull, "big", api.File, sixtyFour()},
	}
}

func laid(t testing.TB) *graph.Graph {
	t.Helper()
	g := graph.New()
	for _, x := range things() {
		g.Make(id(x.n), x.kind)
		g.Set(id(x.n), 100+x.n, x.data)
		tie(t, g, x.at, x.name, x.n)
	}
	g.Set(id(nRoot), 7, "")
	tie(t, g, nRoot, "same", nF)
	tie(t, g, nFull, "m2", nM)
	for _, name := range []string{"6a", "6b", "6c", "6d", "6e"} {
		tie(t, g, nD, name, nSix)
	}
	if l := audit.Check(g.Inodes(), g.Entries()); len(l) > 0 {
		t.Fatal(l)
	}
	return g
}

func tie(t testing.TB, g *graph.Graph, at int, name string, n int) {
	t.Helper()
	if e := g.Tie(api.Entry{At: id(at), Name: name, Ino: id(n)}); e != 0 {
		t.Fatal(name, e)
	}
}

// crowded is a graph of 40 inodes.
func crowded(t testing.TB) *graph.Graph {
	t.Helper()
	g := laid(t)
	for n := nNew + 1; len(g.Inodes()) < 40; n++ {
		g.Make(id(n), api.Dir)
		tie(t, g, nFull, fmt.Sprint(n), n)
	}
	return g
}

// changing are the kinds of calls that change; asking are those of calls that ask.
func changing() []int {
	return []int{1, 2, 3, 4, 5, 6, 7, 8, 9, 10}
}

func asking() []int {
	return []int{11, 12, 13, 14}
}

// good is a call of a kind that is right on the graph of most tests.
func good(kind int) Call {
	return map[int]Call{
		1:  {Kind: 1, Path: "/new"},
		2:  {Kind: 2, Path: "/new"},
		3:  {Kind: 3, Path: "/new", Data: "d"},
		4:  {Kind: 4, Path: "/file", Other: "/new"},
		5:  {Kind: 5, Path: "/file"},
		6:  {Kind: 6, Path: "/empty"},
		7:  {Kind: 7, Path: "/file", Other: "/new"},
		8:  {Kind: 8, Path: "/file", Off: 2, Data: "two"},
		9:  {Kind: 9, Path: "/file", Off: 3},
		10: {Kind: 10, Path: "/file", Off: 420},
		11: {Kind: 11, Path: "/d"},
		12: {Kind: 12, Path: "/file"},
		13: {Kind: 13, Path: "/file", Off: 2, Many: 3},
		14: {Kind: 14, Path: "/l"},
	}[kind]
}

func (c Call) with(turn func(c *Call)) Call {
	turn(&c)
	return c
}

func (c Call) by(path string) Call {
	c.Path = path
	return c
}

func (c Call) to(other string) Call {
	c.Other = other
	return c
}

func (c Call) at(off int) Call {
	c.Off = off
	return c
}

func (c Call) having(data string) Call {
	c.Data = data
	return c
}

// farBelow are numbers below 0, some far off.
func farBelow() []int {
	return []int{-1, -2, -64, -4096, math.MinInt32, math.MinInt + 1, math.MinInt}
}

func some[T any](r *rand.Rand, l []T) T {
	return l[r.IntN(len(l))]
}

// The numbers stand here once more as the document has them.

func TestNumbers(t *testing.T) {
	got := []int{Readdir, Stat, Read, Readlink, api.Mkdir, api.Create, api.Symlink, api.Link, api.Unlink, api.Rmdir, api.Rename, api.Write, api.Trunc, api.Setattr}
	if want := []int{11, 12, 13, 14, 1, 2, 3, 4, 5, 6, 7, 8, 9, 10}; !slices.Equal(got, want) {
		t.Fatalf("%v; want %v", got, want)
	}
	limits := []int{api.MaxSize, api.MaxTarget, api.MaxLinks, api.MaxInodes, api.MaxMode, api.Dir, api.File, api.Sym}
	if want := []int{64, 32, 6, 40, 4095, 1, 2, 3}; !slices.Equal(limits, want) {
		t.Fatalf("%v; want %v", limits, want)
	}
}

func TestLaid(t *testing.T) {
	for _, g := range []*graph.Graph{laid(t), crowded(t)} {
		if n, e := plainOf(g).lists(); !slices.Equal(g.Inodes(), n) || !slices.Equal(g.Entries(), e) {
			t.Fatalf("%+v\n%+v\n%s", n, e, shown(g))
		}
		for _, kind := range append(changing()[3:], asking()...) {
			wantTold(t, g, good(kind), api.OK)
		}
	}
	for _, kind := range changing() {
		wantTold(t, laid(t), good(kind), api.OK)
	}
}

// P16.1: Changes

func TestChanges(t *testing.T) {
	for kind := -20; kind <= 300; kind++ {
		if Changes(kind) != of(kind, 1, 2, 3, 4, 5, 6, 7, 8, 9, 10) {
			t.Errorf("Changes(%d): %v", kind, Changes(kind))
		}
	}
	for _, kind := range append(farBelow(), math.MaxInt, math.MaxInt-1, math.MaxInt32, 1<<32+1, 1<<32+5, 257, 1<<16+1, math.MinInt+5) {
		if Changes(kind) {
			t.Errorf("Changes(%d)", kind)
		}
	}
}

// P16.1: what is wrong with arguments

func TestTheExample(t *testing.T) {
	for _, g := range []*graph.Graph{graph.New(), laid(t)} {
		o, e := Plan(g, Call{Kind: api.Mkdir, Path: "/"}, api.Stamp{Time: 1})
		if e != api.ErrThere || o != (api.Op{}) {
			t.Fatal(o, e)
		}
	}
}

func TestPlanWithoutGraph(t *testing.T) {
	for _, kind := range changing() {
		// Whatever else is wrong, it is ErrArg.
		for _, c := range []Call{good(kind), {Kind: kind}, good(kind).by(""), good(kind).by("/no/no"), good(kind).by("/123456789"), good(kind).having(strings.Repeat("x", 99)), good(kind).at(99), good(kind).to("/")} {
			if o, e := Plan(nil, c, id(nNew)); o != (api.Op{}) || e != api.ErrArg {
				t.Fatalf("%+v: %+v, error %d", c, o, e)
			}
		}
	}
}

func TestPlanOfKindsThatChangeNothing(t *testing.T) {
	g := laid(t)
	kinds := append([]int{0, 15, 16, 255, 256, 257, 266, 1<<32 + 1, math.MaxInt}, append(asking(), farBelow()...)...)
	for _, kind := range kinds {
		for _, like := range append(changing(), asking()...) {
			c := good(like)
			c.Kind = kind
			wantPlanErr(t, g, c, api.ErrArg)
			wantPlanErr(t, nil, c, api.ErrArg)
			wantPlanErr(t, g, c.by("").to("").at(-1).having(""), api.ErrArg)
			wantPlanErr(t, g, c.by("/123456789").at(99), api.ErrArg)
		}
	}
}

// wantPlanErr is of any kind, also of those of which Ask would be asked, and of any graph.
func wantPlanErr(t testing.TB, g *graph.Graph, c Call, want api.Errno) {
	t.Helper()
	was := g.Copy()
	if o, e := Plan(g, c, id(nNew)); o != (api.Op{}) || e != want {
		t.Fatalf("Plan of %+v: %+v, error %d; want error %d", c, o, e, want)
	}
	if !reflect.DeepEqual(g, was) {
		t.Fatalf("Plan of %+v changes the graph", c)
	}
}

func TestSymlinkOfNothing(t *testing.T) {
	wantTold(t, laid(t), good(api.Symlink).having(""), api.ErrArg)
}

func TestSymlinkToAByte0(t *testing.T) {
	g := laid(t)
	for _, n := range []int{1, 2, 5, 31, 32, 33, 34, 64, 65, 200} {
		for k := range n {
			wantTold(t, g, good(api.Symlink).having(strings.Repeat("x", k)+"\x00"+strings.Repeat("y", n-k-1)), api.ErrArg)
		}
	}
	wantTold(t, g, good(api.Symlink).having(strings.Repeat("\x00", 33)), api.ErrArg)
}

func TestSymlinkToLongData(t *testing.T) {
	g := laid(t)
	long := strings.Repeat("ab/", 100)
	for n := 1; n <= 32; n++ {
		c := good(api.Symlink).having(long[:n])
		wantPlan(t, g, c, api.Op{Name: "new", Data: long[:n]})
	}
	for _, n := range []int{33, 34, 63, 64, 65, 128, 129, 288, 300} {
		wantTold(t, g, good(api.Symlink).having(long[:n]), api.ErrLong)
	}
	// Characters that are longer than a byte: it is the bytes that count.
	wantTold(t, g, good(api.Symlink).having(strings.Repeat("\xc3\xa9", 16)), api.OK)
	wantTold(t, g, good(api.Symlink).having(strings.Repeat("\xc3\xa9", 16)+"x"), api.ErrLong)
}

func TestSymlinkToAnyData(t *testing.T) {
	g := laid(t)
	// It needn't be a path that leads anywhere, nor one that may be.
	for _, data := range []string{"/", ".", "..", "new", "/new", "123456789", "no/no/no", "//", "\xff\xfe", " ", "d/e/f", "0"} {
		wantPlan(t, g, good(api.Symlink).having(data), api.Op{Name: "new", Data: data})
	}
	for b := 1; b < 256; b++ {
		data := string([]byte{byte(b)})
		wantPlan(t, g, good(api.Symlink).having(data), api.Op{Name: "new", Data: data})
	}
}

func TestWriteOfNothing(t *testing.T) {
	g := laid(t)
	for _, off := range []int{0, 1, 63, 64, 65, 100, -1, math.MaxInt, math.MinInt} {
		wantTold(t, g, good(api.Write).having("").at(off), api.ErrArg)
	}
}

func TestWriteSomewhere(t *testing.T) {
	g := laid(t)
	text := sixtyFour() + sixtyFour()
	for n := 1; n <= 70; n++ {
		for off := 0; off <= 70; off++ {
			c := good(api.Write).having(text[:n]).at(off)
			if off+n <= 64 {
				wantPlan(t, g, c, api.Op{Ino: id(nFile), Off: off, Data: text[:n]})
			} else {
				wantTold(t, g, c, api.ErrBig)
			}
		}
		for _, off := range farBelow() {
			wantTold(t, g, good(api.Write).having(text[:n]).at(off), api.ErrArg)
		}
		for _, off := range []int{71, 128, 1 << 31, 1 << 32, math.MaxInt - 64, math.MaxInt - 63, math.MaxInt - n, math.MaxInt - n + 1, math.MaxInt} {
			wantPlanErr(t, g, good(api.Write).having(text[:n]).at(off), api.ErrBig)
		}
	}
	// A byte 0 may be written, and any other one.
	for b := range 256 {
		data := string([]byte{byte(b), 'x', byte(b)})
		wantPlan(t, g, good(api.Write).having(data), api.Op{Ino: id(nFile), Off: 2, Data: data})
	}
	wantTold(t, g, good(api.Write).having(strings.Repeat("x", 100_000)).at(0), api.ErrBig)
}

func TestTruncToAnySize(t *testing.T) {
	g := laid(t)
	for off := 0; off <= 64; off++ {
		wantPlan(t, g, good(api.Trunc).at(off), api.Op{Ino: id(nFile), Off: off})
	}
	for _, off := range []int{65, 66, 128, 4095, 1 << 31, 1 << 32, math.MaxInt - 1, math.MaxInt} {
		wantTold(t, g, good(api.Trunc).at(off), api.ErrBig)
		wantTold(t, g, good(api.Trunc).at(off).having("data"), api.ErrBig)
	}
	for _, off := range farBelow() {
		wantTold(t, g, good(api.Trunc).at(off), api.ErrArg)
	}
	// Data are no data of it.
	wantPlan(t, g, good(api.Trunc).at(64).having("data"), api.Op{Ino: id(nFile), Off: 64})
}

func TestSetattrToAnyMode(t *testing.T) {
	g := laid(t)
	for _, off := range []int{0, 1, 63, 64, 65, 100, 511, 512, 4094, 4095} {
		wantPlan(t, g, good(api.Setattr).at(off), api.Op{Ino: id(nFile), Off: off})
	}
	for _, off := range append(farBelow(), 4096, 4097, 1<<31, 1<<32, 1<<32+1, math.MaxInt-1, math.MaxInt) {
		wantTold(t, g, good(api.Setattr).at(off), api.ErrArg)
	}
}

// noise are all that calls of a kind don't ask for, turned.
func noise(c Call) []Call {
	var turns []func(c *Call)
	if !of(c.Kind, 13) {
		for _, many := range []int{-1, 0, 1, math.MinInt, math.MaxInt} {
			turns = append(turns, func(c *Call) { c.Many = many })
		}
	}
	if !of(c.Kind, 4, 7) {
		for _, other := range []string{"/", "", "/d", "/new", "/no/no", "/123456789", "\x00", "loop/x"} {
			turns = append(turns, func(c *Call) { c.Other = other })
		}
	}
	if !of(c.Kind, 3, 8) {
		for _, data := range []string{"", "x", "\x00", strings.Repeat("x", 33), strings.Repeat("x", 65)} {
			turns = append(turns, func(c *Call) { c.Data = data })
		}
	}
	if !of(c.Kind, 8, 9, 10, 13) {
		for _, off := range []int{-1, 0, 1, 64, 65, 4095, 4096, math.MinInt, math.MaxInt} {
			turns = append(turns, func(c *Call) { c.Off = off })
		}
	}
	l := []Call{c}
	for _, turn := range turns {
		l = append(l, c.with(turn))
	}
	return append(l, c.with(func(c *Call) {
		for _, turn := range turns {
			turn(c)
		}
	}))
}

func TestWhatACallDoesNotAskForIsNothingToIt(t *testing.T) {
	g := laid(t)
	for _, kind := range changing() {
		want, _ := planned(t, g, good(kind), id(nNew))
		for _, c := range noise(good(kind)) {
			wantPlan(t, g, c, want)
		}
	}
	for _, kind := range asking() {
		want, _ := asked(t, g, good(kind))
		for _, c := range noise(good(kind)) {
			wantAsk(t, g, c, want)
		}
	}
}

// P16.1: where paths lead

// badPaths are paths that path.Find tells an error of, whatever follows.
func badPaths() map[string]api.Errno {
	return map[string]api.Errno{
		"":                              api.ErrNone,
		"/no/no":                        api.ErrNone,
		"/d/no/no":                      api.ErrNone,
		"no/..":                         api.ErrNone,
		"/far/x":                        api.ErrNone,
		"/dead/x":                       api.ErrNone,
		"/d/\x00":                       api.ErrArg,
		"\x00":                          api.ErrArg,
		"/no/no/\x00":                   api.ErrArg,
		"/zero/x":                       api.ErrArg,
		"/file/x":                       api.ErrFile,
		"/d/e/f/x":                      api.ErrFile,
		"/file/..":                      api.ErrFile,
		"/m/x":                          api.ErrFile,
		"/m/..":                         api.ErrFile,
		"/loop/x":                       api.ErrLoop,
		"/loop/..":                      api.ErrLoop,
		"/123456789":                    api.ErrLong,
		"/123456789/\x00":               api.ErrLong,
		"/long/x":                       api.ErrLong,
		"/no/no/123456789":              api.ErrLong,
		strings.Repeat("/", 129):        api.ErrLong,
		strings.Repeat("d/../", 26):     api.ErrLong,
		"/d" + strings.Repeat("/", 127): api.ErrLong,
	}
}

func TestPathsThatCantBe(t *testing.T) {
	g := laid(t)
	for p, e := range badPaths() {
		for _, kind := range append(changing(), asking()...) {
			for _, c := range noise(good(kind)) {
				wantTold(t, g, c.by(p), e)
			}
		}
		// Whatever is wrong with the other one, it is told behind that.
		for other := range badPaths() {
			wantTold(t, g, good(api.Link).by(p).to(other), e)
			wantTold(t, g, good(api.Rename).by(p).to(other), e)
		}
	}
}

func TestOthersThatCantBe(t *testing.T) {
	g := laid(t)
	for p, e := range badPaths() {
		for _, from := range []string{"/file", "/l", "/six", "/d/abs", "d/e/f", "/m"} {
			wantTold(t, g, good(api.Link).by(from).to(p), e)
			wantTold(t, g, good(api.Rename).by(from).to(p), e)
		}
		// Also where the first one couldn't be linked, or moved there.
		wantTold(t, g, good(api.Link).by("/").to(p), e)
		wantTold(t, g, good(api.Link).by("/d").to(p), e)
		wantTold(t, g, good(api.Rename).by("/d").to(p), e)
		wantTold(t, g, good(api.Rename).by("/full").to(p), e)
	}
}

func TestPathsToNothing(t *testing.T) {
	g := laid(t)
	for _, p := range []string{"/new", "new", "./new/", "/d/new", "/d/e/new", "/l/new", "/d/abs/new", "/d/e/top/new", "/d/e/up/new", "/empty/new", "/d/..new", "/d/12345678"} {
		for _, kind := range append(changing(), asking()...) {
			if of(kind, 1, 2, 3) {
				wantTold(t, g, good(kind).by(p), api.OK)
			} else {
				wantTold(t, g, good(kind).by(p), api.ErrNone)
			}
		}
		// What isn't there is told ahead of whatever the other path has.
		for other := range badPaths() {
			wantTold(t, g, good(api.Link).by(p).to(other), api.ErrNone)
			wantTold(t, g, good(api.Rename).by(p).to(other), api.ErrNone)
		}
		for _, other := range append(bare(), "/d", "/file") {
			wantTold(t, g, good(api.Link).by(p).to(other), api.ErrNone)
			wantTold(t, g, good(api.Rename).by(p).to(other), api.ErrNone)
		}
	}
}

func TestLinksToNothing(t *testing.T) {
	g := laid(t)
	// Which kinds follow a link at the end, and are told what is there.
	for kind, want := range map[int]api.Errno{1: 4, 2: 4, 3: 4, 4: 0, 5: 0, 6: 6, 7: 0, 8: 3, 9: 3, 10: 3, 11: 3, 12: 3, 13: 3, 14: 0} {
		for _, p := range []string{"/dead", "/far", "dead", "d/../far/"} {
			wantTold(t, g, good(kind).by(p), want)
		}
	}
	for p, e := range map[string]api.Errno{"/loop": api.ErrLoop, "/long": api.ErrLong, "/zero": api.ErrArg} {
		for kind, want := range map[int]api.Errno{1: 4, 2: 4, 3: 4, 4: 0, 5: 0, 6: 6, 7: 0, 8: e, 9: e, 10: e, 11: e, 12: e, 13: e, 14: 0} {
			wantTold(t, g, good(kind).by(p), want)
		}
	}
}

// bare are paths that lead to a directory by no name.
func bare() []string {
	return []string{"/", ".", "./", "//", "/.", "..", "/..", "d/..", "/d/e/..", "/d/e/../..", "empty/../.", "/full/..//", "/d/e/../../..", strings.Repeat("/", 128), "l/..", "/l/../", "/d/abs/.."}
}

func TestPathsByNoName(t *testing.T) {
	g := laid(t)
	for _, p := range bare() {
		for kind, want := range map[int]api.Errno{1: 4, 2: 4, 3: 4, 4: 5, 5: 5, 6: 8, 7: 8, 8: 5, 9: 5, 10: 0, 11: 0, 12: 0, 13: 5, 14: 8} {
			wantTold(t, g, good(kind).by(p), want)
		}
		// It is told ahead of whatever the other path has, where it is told.
		for other := range badPaths() {
			wantTold(t, g, good(api.Rename).by(p).to(other), api.ErrInval)
		}
		for _, other := range append(bare(), "/d", "/file", "/new") {
			wantTold(t, g, good(api.Rename).by(p).to(other), api.ErrInval)
		}
	}
}

func TestOthersByNoName(t *testing.T) {
	g := laid(t)
	for _, p := range bare() {
		for _, from := range []string{"/file", "/d", "/empty", "/full", "/l", "/six", "/m", "/d/e/f", "/d/e"} {
			wantTold(t, g, good(api.Link).by(from).to(p), api.ErrThere)
			wantTold(t, g, good(api.Rename).by(from).to(p), api.ErrThere)
		}
		// Of what has no name Link tells it, too; it tells ahead that the other one is there.
		wantTold(t, g, good(api.Link).by("/").to(p), api.ErrThere)
		wantTold(t, g, good(api.Link).by("/d/..").to(p), api.ErrThere)
	}
}

func TestLinksToWhatHasNoName(t *testing.T) {
	g := laid(t)
	for _, p := range []string{"/here", "/d/e/top", "/l/up", "/d/e/up"} {
		for kind, want := range map[int]api.Errno{1: 4, 2: 4, 3: 4, 4: 0, 5: 0, 6: 6, 7: 0, 8: 5, 9: 5, 10: 0, 11: 0, 12: 0, 13: 5, 14: 0} {
			wantTold(t, g, good(kind).by(p), want)
		}
		// As the other path it is a name, and not followed: it is there.
		wantTold(t, g, good(api.Link).to(p), api.ErrThere)
		wantTold(t, g, good(api.Rename).to(p), api.OK)
		wantTold(t, g, good(api.Rename).by("/empty").to(p), api.ErrFile)
	}
}

// P16.1: of two things that are wrong the first one is told

func TestArgumentsAreToldAheadOfPaths(t *testing.T) {
	g := laid(t)
	paths := append(bare(), "/d", "/file", "/new", "/loop", "/dead")
	for p := range badPaths() {
		paths = append(paths, p)
	}
	for _, p := range paths {
		for data, e := range map[string]api.Errno{"": 1, "a\x00": 1, strings.Repeat("x", 33): 10, strings.Repeat("x", 33) + "\x00": 1} {
			wantTold(t, g, good(api.Symlink).by(p).having(data), e)
		}
		for _, off := range []int{-1, 0, 64, 65, math.MaxInt, math.MinInt} {
			wantTold(t, g, good(api.Write).by(p).at(off).having(""), api.ErrArg)
		}
		wantTold(t, g, good(api.Write).by(p).at(-1), api.ErrArg)
		wantTold(t, g, good(api.Write).by(p).at(-1).having(strings.Repeat("x", 65)), api.ErrArg)
		wantTold(t, g, good(api.Write).by(p).at(-1).having(strings.Repeat("x", 66)), api.ErrArg)
		wantTold(t, g, good(api.Write).by(p).at(62), api.ErrBig)
		wantTold(t, g, good(api.Write).by(p).at(65), api.ErrBig)
		wantTold(t, g, good(api.Write).by(p).at(0).having(strings.Repeat("x", 65)), api.ErrBig)
		wantTold(t, g, good(api.Trunc).by(p).at(-1), api.ErrArg)
		wantTold(t, g, good(api.Trunc).by(p).at(65), api.ErrBig)
		wantTold(t, g, good(api.Setattr).by(p).at(-1), api.ErrArg)
		wantTold(t, g, good(api.Setattr).by(p).at(4096), api.ErrArg)
		wantTold(t, g, good(Read).by(p).at(-1), api.ErrArg)
		wantTold(t, g, good(Read).by(p).with(func(c *Call) { c.Many = -1 }), api.ErrArg)
	}
}

// variants are calls of a kind with all sorts of arguments, without their paths.
func variants(kind int) []Call {
	c := Call{Kind: kind}
	switch kind {
	case 3:
		return []Call{c, c.having("\x00"), c.having(strings.Repeat("x", 32)), c.having(strings.Repeat("x", 33)), c.having(strings.Repeat("\x00", 33)), c.having("/d")}
	case 8:
		return []Call{c, c.having("x"), c.having("x").at(63), c.having("x").at(64), c.having("x").at(-1), c.at(65), c.having(sixtyFour()), c.having(sixtyFour()).at(1)}
	case 9, 10:
		return []Call{c, c.at(-1), c.at(64), c.at(65), c.at(4095), c.at(4096)}
	case 13:
		return []Call{c, {Kind: 13, Many: 5}, {Kind: 13, Off: 3, Many: 100}, {Kind: 13, Off: -1, Many: 1}, {Kind: 13, Off: 1, Many: -1}, {Kind: 13, Off: -1, Many: -1}}
	}
	return []Call{c}
}

// allPaths are paths of all sorts.
func allPaths() []string {
	l := []string{"/d", "/d/", "/d/e", "/d/e/f", "l/f", "/empty", "/full", "/full/x", "/file", "file/", "/same", "/six", "/d/6c", "/l", "/l/", "/l/to", "/d/abs", "/d/abs/x", "/d/abs/m2", "/m", "/dead", "/far", "/loop", "/loop/x", "/l/top", "/l/top/d", "/d/e/up", "/l/up/e", "/here", "/here/here/d", "/long", "/long/x", "/zero", "/zero/x", "/full/big", "/new", "/d/new", "/l/new", "/file/new", "/d/abs/new", "/empty/new", "/no/new"}
	return append(l, "", "/", "..", "/d/e/..", "/\x00", "/123456789", strings.Repeat("/", 129))
}

// TestAllCalls holds calls of each kind with each sort of arguments and of paths against the plain ones.
func TestAllCalls(t *testing.T) {
	told := map[[2]int]int{}
	for _, g := range []*graph.Graph{laid(t), crowded(t), graph.New()} {
		for _, kind := range append(changing(), asking()...) {
			for _, c := range variants(kind) {
				for _, p := range allPaths() {
					for _, other := range allPaths() {
						if !of(kind, 4, 7) && other != "" {
							continue
						}
						told[[2]int{kind, int(anyCall(t, g, c.by(p).to(other), id(nNew)))}]++
					}
				}
			}
		}
	}
	wantAllTold(t, told)
}

// anyCall does a call to a copy of a graph, or asks it.
func anyCall(t testing.TB, g *graph.Graph, c Call, s api.Stamp) api.Errno {
	t.Helper()
	if of(c.Kind, 11, 12, 13, 14) {
		_, e := asked(t, g, c)
		return e
	}
	_, e := done(t, g, c, s)
	return e
}

// wantAllTold wants that of each kind whatever may be told was told, and nothing else.
func wantAllTold(t *testing.T, told map[[2]int]int) {
	t.Helper()
	may := map[int][]int{
		1: {0, 1, 3, 4, 6, 9, 10, 13}, 2: {0, 1, 3, 4, 6, 9, 10, 13}, 3: {0, 1, 3, 4, 6, 9, 10, 13},
		4: {0, 1, 3, 4, 5, 6, 9, 10, 12}, 5: {0, 1, 3, 5, 6, 9, 10}, 6: {0, 1, 3, 6, 7, 8, 9, 10}, 7: {0, 1, 3, 4, 5, 6, 7, 8, 9, 10},
		8: {0, 1, 3, 5, 6, 9, 10, 11}, 9: {0, 1, 3, 5, 6, 9, 10, 11}, 10: {0, 1, 3, 6, 9, 10},
		11: {0, 1, 3, 6, 9, 10}, 12: {0, 1, 3, 6, 9, 10}, 13: {0, 1, 3, 5, 6, 9, 10}, 14: {0, 1, 3, 6, 8, 9, 10},
	}
	for kind := 1; kind <= 14; kind++ {
		for e := range 16 {
			if many := told[[2]int{kind, e}]; slices.Contains(may[kind], e) != (many > 0) {
				t.Errorf("error %d of kind %d: %d times", e, kind, many)
			}
		}
	}
}

// P16.1: whether the operation can be done

func TestMakeOfWhatIsThere(t *testing.T) {
	g := laid(t)
	for _, kind := range []int{1, 2, 3} {
		for _, p := range []string{"/d", "/d/", "/file", "/l", "/l/", "/m", "/dead", "/loop", "/d/e/f", "l/f", "/same", "/d/abs/x", "/full/m2"} {
			wantTold(t, g, good(kind).by(p), api.ErrThere)
		}
		// There is an inode of the stamp.
		for n := nD; n < nNew; n++ {
			if o, e := planned(t, g, good(kind), id(n)); o != (api.Op{}) || e != api.ErrThere {
				t.Fatal(kind, n, o, e)
			}
		}
		wantTold(t, crowded(t), good(kind).by("/d"), api.ErrThere)
	}
}

func TestMakeInAGraphOf40(t *testing.T) {
	g := crowded(t)
	for _, kind := range []int{1, 2, 3} {
		wantTold(t, g, good(kind).by("/new"), api.ErrSpace)
		wantTold(t, g, good(kind).by("/l/new"), api.ErrSpace)
		less := g.Copy()
		if e := apply.Do(less, api.Op{Stamp: id(nNew), Kind: api.Unlink, Ino: id(nFile), Name: "file"}); e != 0 {
			t.Fatal(e)
		}
		last, e := done(t, less, good(kind), id(nNew))
		if e != 0 || len(last.Inodes()) != 40 {
			t.Fatal(kind, e)
		}
	}
	for _, kind := range append(changing()[3:], asking()...) {
		wantTold(t, g, good(kind), api.OK)
	}
}

func TestLinkOfWhatCantHaveMore(t *testing.T) {
	g := laid(t)
	for _, p := range []string{"/", "/d", "/d/e", "/empty", "..", "/l/."} {
		want := api.ErrDir
		if p == "/l/." {
			want = api.OK
		}
		wantTold(t, g, good(api.Link).by(p).to("/new"), want)
		wantTold(t, g, good(api.Link).by(p).to("/empty/new"), want)
		if want != 0 {
			wantTold(t, g, good(api.Link).by(p).to("/file"), want)
		}
	}
	for _, p := range []string{"/six", "/d/6a", "/d/6e"} {
		wantTold(t, g, good(api.Link).by(p).to("/new"), api.ErrLinks)
		wantTold(t, g, good(api.Link).by(p).to("/d"), api.ErrThere)
		wantTold(t, g, good(api.Link).by(p).to("/d/6b"), api.ErrThere)
	}
	for _, p := range []string{"/d", "/file", "/l", "/m", "/dead", "/loop", "/here", "/full/x", "/d/abs/x", "/l/f"} {
		wantTold(t, g, good(api.Link).to(p), api.ErrThere)
	}
	// A name for the sixth time is the last one that can be.
	five, e := done(t, g, Call{Kind: api.Unlink, Path: "/d/6c"}, id(nNew))
	if e != 0 {
		t.Fatal(e)
	}
	six, e := done(t, five, Call{Kind: api.Link, Path: "/six", Other: "/6"}, id(nNew))
	if e != 0 {
		t.Fatal(e)
	}
	wantTold(t, six, Call{Kind: api.Link, Path: "/6", Other: "/7"}, api.ErrLinks)
}

func TestUnlinkOfDirectories(t *testing.T) {
	g := laid(t)
	for _, p := range []string{"/d", "/d/", "d/e", "/empty", "/full", "/l/../e", "/here/d"} {
		wantTold(t, g, good(api.Unlink).by(p), api.ErrDir)
	}
}

func TestRmdirOfWhatCantGo(t *testing.T) {
	g := laid(t)
	for _, p := range []string{"/file", "/file/", "/d/e/f", "/l", "/l/", "/dead", "/loop", "/m", "/d/abs", "/here", "/d/e/up"} {
		wantTold(t, g, good(api.Rmdir).by(p), api.ErrFile)
	}
	for _, p := range []string{"/d", "/d/", "/d/e", "/full", "/d/e/top/full", "here/d"} {
		wantTold(t, g, good(api.Rmdir).by(p), api.ErrFull)
	}
}

func TestRenameOfWhatCantGoThere(t *testing.T) {
	g := laid(t)
	for _, x := range []struct {
		path, other string
		want        api.Errno
	}{
		{"/d", "/d/new", api.ErrInval}, {"/d", "/d/e/new", api.ErrInval}, {"/d", "/d/e", api.ErrInval}, {"/d", "/l/new", api.ErrInval}, {"/d", "/l/f", api.ErrInval}, {"/d/e", "/l/new", api.ErrInval}, {"/empty", "/empty/new", api.ErrInval}, {"/d/e", "/d/e/top", api.ErrInval},
		{"/d", "/l/top/new", api.OK}, {"/d/e", "/l/up/new", api.OK}, {"/d/e", "/new", api.OK}, {"/full", "/l/new", api.OK},
		{"/file", "/d", api.ErrDir}, {"/file", "/empty", api.ErrDir}, {"/l", "/d/e", api.ErrDir}, {"/m", "/full/", api.ErrDir},
		{"/d", "/file", api.ErrFile}, {"/empty", "/l", api.ErrFile}, {"/full", "/d/abs", api.ErrFile}, {"/empty", "/dead", api.ErrFile}, {"/empty", "/d/abs/x", api.ErrFile},
		{"/d", "/full", api.ErrFull}, {"/empty", "/full", api.ErrFull}, {"/d/e", "/d", api.ErrFull}, {"/full", "/d/e", api.ErrFull},
		{"/d", "/empty", api.OK}, {"/full", "/empty/", api.OK}, {"/d/e", "/empty", api.OK},
		{"/file", "/m", api.OK}, {"/file", "/same", api.OK}, {"/l", "/loop", api.OK}, {"/file", "/full/x", api.OK},
		{"/d", "/d", api.OK}, {"/d/e", "/l/../e", api.OK}, {"/full", "d/../full", api.OK}, {"/same", "/d/e/f", api.OK}, {"/six", "/d/6d", api.OK}, {"/m", "/full/m2", api.OK}, {"/loop", "/loop", api.OK},
	} {
		wantTold(t, g, Call{Kind: api.Rename, Path: x.path, Other: x.other}, x.want)
	}
}

func TestFillOfWhatIsNoFile(t *testing.T) {
	g := laid(t)
	for _, p := range []string{"/", "/d", "/l", "/l/", "/d/abs", "/d/e/top", "/d/e/up", "/here", "..", "/empty"} {
		wantTold(t, g, good(api.Write).by(p), api.ErrDir)
		wantTold(t, g, good(api.Trunc).by(p), api.ErrDir)
		wantTold(t, g, good(api.Setattr).by(p), api.OK)
	}
}

func TestStampsThatMayNotBe(t *testing.T) {
	g := laid(t)
	for _, s := range []api.Stamp{{}, {Rep: 1}, {Time: -1}, {Time: 1, Rep: -1}, {Time: 1, Rep: 8}, {Time: 1<<30 + 1}, {Time: math.MaxInt64, Rep: math.MaxInt}, {Time: math.MinInt64, Rep: math.MinInt}} {
		for _, kind := range changing() {
			if o, e := Plan(g, good(kind), s); o != (api.Op{}) || e != api.ErrArg {
				t.Fatalf("Plan of %+v, %v: %+v, error %d", good(kind), s, o, e)
			}
			if o, e := Plan(g, good(kind).by("/no/no"), s); o != (api.Op{}) || e != api.ErrNone {
				t.Fatalf("Plan of %+v, %v: %+v, error %d", good(kind), s, o, e)
			}
		}
	}
}

func TestStampsThatMayBe(t *testing.T) {
	g := laid(t)
	for _, s := range []api.Stamp{{Time: 1}, {Time: 1, Rep: 7}, {Time: 1 << 30}, {Time: 1 << 30, Rep: 7}, {Time: 500, Rep: 3}} {
		for _, kind := range changing() {
			if _, e := done(t, g, good(kind), s); e != 0 {
				t.Fatal(kind, s, e)
			}
		}
	}
	// Of what makes nothing the stamp may be an inode's.
	for _, kind := range changing()[3:] {
		for n := nD; n < nNew; n++ {
			if _, e := done(t, g, good(kind), id(n)); e != 0 {
				t.Fatal(kind, n, e)
			}
		}
	}
}

// P16.1: the operation, whole

func TestOperationsThatMake(t *testing.T) {
	g := laid(t)
	for p, want := range map[string]api.Op{
		"/new":              {Name: "new"},
		"new":               {Name: "new"},
		"//./new//":         {Name: "new"},
		"../../new":         {Name: "new"},
		"/d/new":            {At: id(nD), Name: "new"},
		"d/e/../new":        {At: id(nD), Name: "new"},
		"/d/e/g":            {At: id(nE), Name: "g"},
		"/l/f2":             {At: id(nE), Name: "f2"},
		"l/./..new":         {At: id(nE), Name: "..new"},
		"/l/../x":           {At: id(nD), Name: "x"},
		"/d/abs/y":          {At: id(nFull), Name: "y"},
		"/l/top/z":          {Name: "z"},
		"/l/up/12345678":    {At: id(nD), Name: "12345678"},
		"/here/here/new":    {Name: "new"},
		"/l/top/l/up/e/one": {At: id(nE), Name: "one"},
		"/empty/ \xff\n":    {At: id(nEmpty), Name: " \xff\n"},
	} {
		wantPlan(t, g, Call{Kind: api.Mkdir, Path: p}, want)
		wantPlan(t, g, Call{Kind: api.Create, Path: p}, want)
		want.Data = "../to"
		wantPlan(t, g, Call{Kind: api.Symlink, Path: p, Data: "../to"}, want)
	}
}

func TestOperationsOfLink(t *testing.T) {
	g := laid(t)
	for _, x := range []struct {
		path, other string
		want        api.Op
	}{
		{"/file", "/new", api.Op{Ino: id(nFile), Name: "new"}},
		{"file", "d/new", api.Op{At: id(nD), Ino: id(nFile), Name: "new"}},
		{"/d/e/f", "/l/f2", api.Op{At: id(nE), Ino: id(nF), Name: "f2"}},
		{"/same", "/d/abs/new", api.Op{At: id(nFull), Ino: id(nF), Name: "new"}},
		{"l/f", "l/../../new/", api.Op{Ino: id(nF), Name: "new"}},
		{"/full/x", "empty/y", api.Op{At: id(nEmpty), Ino: id(nX), Name: "y"}},
		// The links themselves.
		{"/l", "/d/l2", api.Op{At: id(nD), Ino: id(nL), Name: "l2"}},
		{"/l/to", "/l/to2", api.Op{At: id(nE), Ino: id(nTo), Name: "to2"}},
		{"/m", "/new", api.Op{Ino: id(nM), Name: "new"}},
		{"/full/m2", "/new", api.Op{Ino: id(nM), Name: "new"}},
		{"/loop", "/loop2", api.Op{Ino: id(nLoop), Name: "loop2"}},
		{"/dead", "/l/new", api.Op{At: id(nE), Ino: id(nDead), Name: "new"}},
		{"/zero/", "/new", api.Op{Ino: id(nZero), Name: "new"}},
	} {
		wantPlan(t, g, Call{Kind: api.Link, Path: x.path, Other: x.other}, x.want)
	}
}

func TestOperationsOfUnlink(t *testing.T) {
	g := laid(t)
	for p, want := range map[string]api.Op{
		"/file":      {Ino: id(nFile), Name: "file"},
		"file/":      {Ino: id(nFile), Name: "file"},
		"/same":      {Ino: id(nF), Name: "same"},
		"/d/e/f":     {At: id(nE), Ino: id(nF), Name: "f"},
		"/l/f":       {At: id(nE), Ino: id(nF), Name: "f"},
		"/d/abs/x":   {At: id(nFull), Ino: id(nX), Name: "x"},
		"/l/up/6b":   {At: id(nD), Ino: id(nSix), Name: "6b"},
		"/l/top/six": {Ino: id(nSix), Name: "six"},
		// The links themselves.
		"/l":          {Ino: id(nL), Name: "l"},
		"/l/":         {Ino: id(nL), Name: "l"},
		"/l/to":       {At: id(nE), Ino: id(nTo), Name: "to"},
		"/d/abs":      {At: id(nD), Ino: id(nAbs), Name: "abs"},
		"/m":          {Ino: id(nM), Name: "m"},
		"/d/abs/m2/.": {At: id(nFull), Ino: id(nM), Name: "m2"},
		"/dead":       {Ino: id(nDead), Name: "dead"},
		"/loop":       {Ino: id(nLoop), Name: "loop"},
		"/l/top":      {At: id(nE), Ino: id(nTop), Name: "top"},
	} {
		wantPlan(t, g, Call{Kind: api.Unlink, Path: p}, want)
	}
}

func TestOperationsOfRmdir(t *testing.T) {
	g := laid(t)
	for _, p := range []string{"/empty", "empty", "/empty/.", "/l/top/empty/", "/d/abs/../empty", "../here/empty"} {
		wantPlan(t, g, Call{Kind: api.Rmdir, Path: p}, api.Op{Ino: id(nEmpty), Name: "empty"})
	}
	moved, e := done(t, g, Call{Kind: api.Rename, Path: "/empty", Other: "/l/bare"}, id(nNew))
	if e != 0 {
		t.Fatal(e)
	}
	for _, p := range []string{"/l/bare", "/d/e/bare", "l/up/e/bare/"} {
		wantPlan(t, moved, Call{Kind: api.Rmdir, Path: p}, api.Op{At: id(nE), Ino: id(nEmpty), Name: "bare"})
	}
}

func TestOperationsOfRename(t *testing.T) {
	g := laid(t)
	for _, x := range []struct {
		path, other string
		want        api.Op
	}{
		{"/file", "/new", api.Op{Ino: id(nFile), Name: "file", New: "new"}},
		{"file", "d/file", api.Op{Ino: id(nFile), Name: "file", To: id(nD), New: "file"}},
		{"/d/e/f", "f", api.Op{At: id(nE), Ino: id(nF), Name: "f", New: "f"}},
		{"/l/f", "/l/up/g", api.Op{At: id(nE), Ino: id(nF), Name: "f", To: id(nD), New: "g"}},
		{"/d/abs/x", "/l/y", api.Op{At: id(nFull), Ino: id(nX), Name: "x", To: id(nE), New: "y"}},
		{"/d", "/empty/", api.Op{Ino: id(nD), Name: "d", New: "empty"}},
		{"/d/e", "/d/e2", api.Op{At: id(nD), Ino: id(nE), Name: "e", To: id(nD), New: "e2"}},
		{"/same", "/full/x", api.Op{Ino: id(nF), Name: "same", To: id(nFull), New: "x"}},
		{"/same", "/l/f", api.Op{Ino: id(nF), Name: "same", To: id(nE), New: "f"}},
		{"/file", "/file", api.Op{Ino: id(nFile), Name: "file", New: "file"}},
		// The links themselves, as what is moved, and as what is there.
		{"/l", "/d/l", api.Op{Ino: id(nL), Name: "l", To: id(nD), New: "l"}},
		{"/l/to", "/to", api.Op{At: id(nE), Ino: id(nTo), Name: "to", New: "to"}},
		{"/file", "/l", api.Op{Ino: id(nFile), Name: "file", New: "l"}},
		{"/file", "/l/to", api.Op{Ino: id(nFile), Name: "file", To: id(nE), New: "to"}},
		{"/file", "/dead", api.Op{Ino: id(nFile), Name: "file", New: "dead"}},
		{"/loop", "/m", api.Op{Ino: id(nLoop), Name: "loop", New: "m"}},
		{"/six", "/d/abs/", api.Op{Ino: id(nSix), Name: "six", To: id(nD), New: "abs"}},
	} {
		wantPlan(t, g, Call{Kind: api.Rename, Path: x.path, Other: x.other}, x.want)
	}
}

func TestOperationsOfInodes(t *testing.T) {
	g := laid(t)
	for p, n := range map[string]int{
		"/file": nFile, "file/": nFile, "/same": nF, "/d/e/f": nF, "d/e/../e/f": nF, "/d/6a": nSix, "/six": nSix,
		// Through links in the middle, and at the end.
		"/l/f": nF, "/d/abs/x": nX, "/l/top/file": nFile, "/m": nF, "/m/.": nF, "/l/to": nF, "/full/m2": nNew, "/d/e/to": nF, "here/m": nF,
	} {
		if n == nNew {
			// l/f below full leads nowhere.
			for _, kind := range []int{api.Write, api.Trunc, api.Setattr} {
				wantTold(t, g, good(kind).by(p), api.ErrNone)
			}
			continue
		}
		wantPlan(t, g, Call{Kind: api.Write, Path: p, Off: 5, Data: "write"}, api.Op{Ino: id(n), Off: 5, Data: "write"})
		wantPlan(t, g, Call{Kind: api.Trunc, Path: p, Off: 6}, api.Op{Ino: id(n), Off: 6})
		wantPlan(t, g, Call{Kind: api.Setattr, Path: p, Off: 448}, api.Op{Ino: id(n), Off: 448})
	}
	for p, n := range map[string]int{
		"/": nRoot, ".": nRoot, "/d/..": nRoot, "/l/top": nRoot, "/here": nRoot, "/d": nD, "/d/e/..": nD, "/l/..": nD, "/l/up": nD, "/d/e/up/": nD, "/l": nE, "/l/.": nE, "/d/abs": nFull, "empty": nEmpty,
	} {
		wantPlan(t, g, Call{Kind: api.Setattr, Path: p, Off: 4095}, api.Op{Ino: id(n), Off: 4095})
	}
}

// P16.2

func TestAskWithoutGraph(t *testing.T) {
	for _, kind := range asking() {
		for _, c := range []Call{good(kind), {Kind: kind}, good(kind).by("/no/no"), good(kind).by("/123456789"), good(kind).at(-1)} {
			wantAskErr(t, nil, c, api.ErrArg)
		}
	}
	wantAskErr(t, nil, Call{}, api.ErrArg)
	wantAskErr(t, nil, good(api.Mkdir), api.ErrArg)
}

// wantAskErr is of any kind, and of any graph.
func wantAskErr(t testing.TB, g *graph.Graph, c Call, want api.Errno) {
	t.Helper()
	was := g.Copy()
	if a, e := Ask(g, c); !sameAnswers(a, Answer{}) || e != want {
		t.Fatalf("Ask of %+v: %+v, error %d; want error %d", c, a, e, want)
	}
	if !reflect.DeepEqual(g, was) {
		t.Fatalf("Ask of %+v changes the graph", c)
	}
}

func TestAskOfKindsThatDoNotAsk(t *testing.T) {
	g := laid(t)
	kinds := append([]int{0, 15, 16, 255, 256, 267, 268, 1<<32 + 11, math.MaxInt}, append(changing(), farBelow()...)...)
	for _, kind := range kinds {
		for _, like := range append(changing(), asking()...) {
			c := good(like)
			c.Kind = kind
			wantAskErr(t, g, c, api.ErrArg)
			wantAskErr(t, g, c.by(""), api.ErrArg)
			wantAskErr(t, g, c.by("/no/no"), api.ErrArg)
			wantAskErr(t, g, c.by("/123456789"), api.ErrArg)
		}
	}
}

func TestReaddir(t *testing.T) {
	g := laid(t)
	root := []string{"d", "dead", "empty", "far", "file", "full", "here", "l", "long", "loop", "m", "same", "six", "zero"}
	d, e, full := []string{"6a", "6b", "6c", "6d", "6e", "abs", "e"}, []string{"f", "to", "top", "up"}, []string{"big", "m2", "x"}
	for p, want := range map[string][]string{
		"/": root, ".": root, "..": root, "/d/..": root, "/l/top": root, "/l/top/": root, "/here": root, "here/here": root,
		"/d": d, "d/": d, "/d/e/..": d, "/l/..": d, "/l/up": d,
		"/d/e": e, "/l": e, "/l/": e, "/l/.": e, "/l/up/e": e,
		"/full": full, "/d/abs": full, "/d/e/../abs": full,
		"/empty": nil, "empty/.": nil, "/l/top/empty": nil,
	} {
		wantAsk(t, g, Call{Kind: Readdir, Path: p}, Answer{Names: want})
	}
	for _, p := range []string{"/file", "/file/", "/d/e/f", "/m", "/l/to", "/full/x", "/d/6a", "/l/f"} {
		wantTold(t, g, Call{Kind: Readdir, Path: p}, api.ErrFile)
	}
	wantAsk(t, graph.New(), Call{Kind: Readdir, Path: "/"}, Answer{})
}

func TestReaddirOfManyNames(t *testing.T) {
	names := []string{"\x01", " ", "!", "-", "..a", ".a", "0", "00", "1", "10", "11", "2", "9", "A", "Aa", "B", "Z", "_", "a", "a ", "a0", "aa", "aaa", "ab", "b", "z", "~", "\x7f", "\x80", "\xc3\xa9", "\xfe", "\xff", "\xff\xff"}
	r := rand.New(rand.NewPCG(16, 1))
	for _, n := range []int{1, 2, 3, 5, 20, len(names)} {
		for range 20 {
			g := laid(t)
			in := r.Perm(len(names))[:n]
			var want []string
			for k, name := range names {
				if slices.Contains(in, k) {
					want = append(want, name)
				}
			}
			// Made in any order, files of one inode and directories.
			for _, k := range in {
				if len(g.Inodes()) < 40 {
					g.Make(id(50+k), api.Dir)
					tie(t, g, nEmpty, names[k], 50+k)
				} else {
					x := []int{nX, nBig, nFile}[len(g.List(id(nEmpty)))%3]
					tie(t, g, nEmpty, names[k], x)
				}
			}
			wantAsk(t, g, Call{Kind: Readdir, Path: "/empty"}, Answer{Names: want})
			wantAsk(t, g, Call{Kind: Readdir, Path: "/l/top/empty"}, Answer{Names: want})
		}
	}
}

func TestStat(t *testing.T) {
	g := laid(t)
	root, d, e, f := api.Inode{Kind: 1, Mode: 7}, api.Inode{Id: id(nD), Kind: 1, Links: 1, Mode: 100 + nD}, api.Inode{Id: id(nE), Kind: 1, Links: 1, Mode: 100 + nE}, api.Inode{Id: id(nF), Kind: 2, Links: 2, Mode: 100 + nF, Data: "text"}
	six, full := api.Inode{Id: id(nSix), Kind: 2, Links: 6, Mode: 100 + nSix, Data: "6"}, api.Inode{Id: id(nFull), Kind: 1, Links: 1, Mode: 100 + nFull}
	x, big := api.Inode{Id: id(nX), Kind: 2, Links: 1, Mode: 100 + nX}, api.Inode{Id: id(nBig), Kind: 2, Links: 1, Mode: 100 + nBig, Data: sixtyFour()}
	for p, want := range map[string]api.Inode{
		"/": root, ".": root, "/d/..": root, "/l/top": root, "here": root, "/d": d, "/d/": d, "/l/..": d, "/l/up": d, "/l": e, "/d/e": e, "/l/": e,
		"/d/e/f": f, "/same": f, "/m": f, "/l/to": f, "l/f": f, "/m/": f, "/six": six, "/d/6e": six, "/full": full, "/d/abs": full, "/full/x": x, "/d/abs/big": big,
	} {
		wantAsk(t, g, Call{Kind: Stat, Path: p}, Answer{Inode: want})
	}
	wantAsk(t, graph.New(), Call{Kind: Stat, Path: "/"}, Answer{Inode: api.Inode{Kind: 1}})
}

func TestRead(t *testing.T) {
	g := laid(t)
	for _, x := range []struct {
		path      string
		off, many int
		want      string
	}{
		{"/file", 0, 0, ""}, {"/file", 0, 1, "0"}, {"/file", 0, 9, "012345678"}, {"/file", 0, 10, "0123456789"}, {"/file", 0, 11, "0123456789"}, {"/file", 0, math.MaxInt, "0123456789"},
		{"/file", 3, 0, ""}, {"/file", 3, 1, "3"}, {"/file", 3, 4, "3456"}, {"/file", 3, 7, "3456789"}, {"/file", 3, 8, "3456789"}, {"/file", 3, math.MaxInt, "3456789"},
		{"/file", 9, 1, "9"}, {"/file", 9, 2, "9"}, {"/file", 9, math.MaxInt, "9"}, {"/file", 10, 1, ""}, {"/file", 10, math.MaxInt, ""}, {"/file", 11, 1, ""}, {"/file", 64, 64, ""}, {"/file", math.MaxInt, 0, ""}, {"/file", math.MaxInt, 1, ""}, {"/file", math.MaxInt, math.MaxInt, ""},
		{"/full/x", 0, 1, ""}, {"/full/x", 0, math.MaxInt, ""}, {"/full/x", 1, 1, ""},
		{"/full/big", 0, 64, sixtyFour()}, {"/full/big", 63, 9, "-"}, {"/full/big", 20, 10, sixtyFour()[20:30]},
		{"/d/e/f", 0, 9, "text"}, {"/same", 1, 2, "ex"}, {"/l/f", 0, 4, "text"}, {"/m", 0, 99, "text"}, {"/m", 2, 1, "x"}, {"/l/to", 0, 99, "text"}, {"/l/top/file", 5, 2, "56"}, {"file/", 1, 1, "1"},
	} {
		wantAsk(t, g, Call{Kind: Read, Path: x.path, Off: x.off, Many: x.many}, Answer{Data: x.want})
	}
	for _, p := range []string{"/", "/d", "/l", "/d/abs", "/d/e/top", "/here", "..", "/empty", "/l/up"} {
		wantTold(t, g, Call{Kind: Read, Path: p, Many: 5}, api.ErrDir)
		wantTold(t, g, Call{Kind: Read, Path: p}, api.ErrDir)
	}
}

func TestReadOfLessThanNothing(t *testing.T) {
	g := laid(t)
	for _, p := range []string{"/file", "/full/x", "/m", "/d", "/no", "/no/no", "", "/123456789", "/loop"} {
		for _, n := range farBelow() {
			for _, m := range []int{0, 1, 9, 10, 11, math.MaxInt, -1, math.MinInt} {
				wantTold(t, g, Call{Kind: Read, Path: p, Off: n, Many: m}, api.ErrArg)
				wantTold(t, g, Call{Kind: Read, Path: p, Off: m, Many: n}, api.ErrArg)
			}
		}
	}
}

func TestReadOfEachByte(t *testing.T) {
	g := laid(t)
	for b := range 256 {
		data := string([]byte{byte(b), 'x', byte(255 - b)})
		g.Set(id(nFile), 0, data)
		wantAsk(t, g, Call{Kind: Read, Path: "/file", Many: 9}, Answer{Data: data})
		wantAsk(t, g, Call{Kind: Read, Path: "/file", Off: 2, Many: 9}, Answer{Data: data[2:]})
	}
}

func TestReadlink(t *testing.T) {
	g := laid(t)
	for p, want := range map[string]string{
		"/l": "d/e", "l": "d/e", "/l/": "d/e", "./l/.": "d/e", "/d/abs": "/full", "/d/e/../abs": "/full", "/m": "l/f", "/full/m2": "l/f", "/d/abs/m2": "l/f", "/l/to": "../../m", "/d/e/to": "../../m",
		"/dead": "d/no", "/far": "no/no", "/loop": "loop", "/l/top": "/", "/l/up": "..", "/here": ".", "/l/top/here": ".", "/long": "d/123456789", "/zero": "d/\x00",
	} {
		wantAsk(t, g, Call{Kind: Readlink, Path: p}, Answer{Data: want})
	}
	for _, p := range []string{"/", "..", ".", "/d", "/d/", "/d/e", "/file", "/d/e/f", "/same", "/l/f", "/l/..", "/empty", "/d/abs/x"} {
		wantTold(t, g, Call{Kind: Readlink, Path: p}, api.ErrInval)
	}
	// Off and Many are nothing to it.
	wantAsk(t, g, Call{Kind: Readlink, Path: "/l", Off: 1, Many: 1}, Answer{Data: "d/e"})
}

// P16.3: what is planned does it

// system is a graph to which calls are made, one behind the other.
type system struct {
	t    testing.TB
	g    *graph.Graph
	time int64
}

func (s *system) call(c Call, want api.Errno) {
	s.t.Helper()
	s.time++
	next, e := done(s.t, s.g, c, api.Stamp{Time: s.time, Rep: int(s.time % 8)})
	if e != want {
		s.t.Fatalf("%+v: error %d; want %d", c, e, want)
	}
	s.g = next
}

func (s *system) stat(p string, want api.Inode) {
	s.t.Helper()
	wantAsk(s.t, s.g, Call{Kind: Stat, Path: p}, Answer{Inode: want})
}

func (s *system) read(p, want string) {
	s.t.Helper()
	wantAsk(s.t, s.g, Call{Kind: Read, Path: p, Many: 99}, Answer{Data: want})
}

func (s *system) list(p string, want ...string) {
	s.t.Helper()
	wantAsk(s.t, s.g, Call{Kind: Readdir, Path: p}, Answer{Names: want})
}

func (s *system) gone(p string) {
	s.t.Helper()
	wantTold(s.t, s.g, Call{Kind: Stat, Path: p}, api.ErrNone)
	wantTold(s.t, s.g, Call{Kind: Readlink, Path: p}, api.ErrNone)
}

func TestARowOfCalls(t *testing.T) {
	s := &system{t: t, g: graph.New()}
	at := func(time int64) api.Stamp { return api.Stamp{Time: time, Rep: int(time % 8)} }
	s.call(Call{Kind: api.Mkdir, Path: "/d"}, 0)
	s.stat("/d", api.Inode{Id: at(1), Kind: 1, Links: 1})
	s.list("/d")
	s.call(Call{Kind: api.Create, Path: "d/f"}, 0)
	s.stat("/d/f", api.Inode{Id: at(2), Kind: 2, Links: 1})
	s.read("/d/f", "")
	s.call(Call{Kind: api.Write, Path: "/d/f", Off: 2, Data: "abc"}, 0)
	s.read("/d/f", "\x00\x00abc")
	s.call(Call{Kind: api.Symlink, Path: "/l", Data: "d/f"}, 0)
	s.stat("/l", api.Inode{Id: at(2), Kind: 2, Links: 1, Data: "\x00\x00abc"})
	wantAsk(t, s.g, Call{Kind: Readlink, Path: "/l"}, Answer{Data: "d/f"})
	s.call(Call{Kind: api.Write, Path: "/l", Data: "xy"}, 0)
	s.read("/d/f", "xyabc")
	s.call(Call{Kind: api.Trunc, Path: "/l", Off: 3}, 0)
	s.read("/d/f", "xya")
	s.call(Call{Kind: api.Trunc, Path: "/l", Off: 5}, 0)
	s.read("/l", "xya\x00\x00")
	s.call(Call{Kind: api.Setattr, Path: "/l", Off: 420}, 0)
	s.stat("/d/f", api.Inode{Id: at(2), Kind: 2, Links: 1, Mode: 420, Data: "xya\x00\x00"})
	s.call(Call{Kind: api.Link, Path: "/d/f", Other: "/g"}, 0)
	s.stat("/g", api.Inode{Id: at(2), Kind: 2, Links: 2, Mode: 420, Data: "xya\x00\x00"})
	s.list("/", "d", "g", "l")
	s.call(Call{Kind: api.Rmdir, Path: "/d"}, api.ErrFull)
	s.call(Call{Kind: api.Unlink, Path: "/d/f"}, 0)
	s.gone("/d/f")
	wantTold(t, s.g, Call{Kind: Stat, Path: "/l"}, api.ErrNone)
	wantTold(t, s.g, Call{Kind: Read, Path: "/l"}, api.ErrNone)
	s.read("/g", "xya\x00\x00")
	s.call(Call{Kind: api.Rename, Path: "/g", Other: "/d/f"}, 0)
	s.gone("/g")
	s.read("/l", "xya\x00\x00")
	s.call(Call{Kind: api.Rename, Path: "/d", Other: "/e"}, 0)
	s.gone("/d")
	s.list("/e", "f")
	s.call(Call{Kind: api.Unlink, Path: "/e/f"}, 0)
	s.call(Call{Kind: api.Rmdir, Path: "/e"}, 0)
	s.call(Call{Kind: api.Unlink, Path: "/l"}, 0)
	s.list("/")
	if len(s.g.Inodes()) != 1 {
		t.Fatal(shown(s.g))
	}
}

// allRows makes all rows of calls out of a list.
func allRows(t *testing.T, g *graph.Graph, pool []Call, left int, told map[[2]int]int) {
	if left == 0 {
		return
	}
	for k, c := range pool {
		next, e := done(t, g, c, api.Stamp{Time: int64(10*left + k%10 + 1), Rep: k % 8})
		told[[2]int{c.Kind, int(e)}]++
		// Behind what can't be done it is as it was.
		if e == 0 {
			allRows(t, next, pool, left-1, told)
		}
	}
}

func TestAllRows(t *testing.T) {
	pool := []Call{
		{Kind: 1, Path: "/a"}, {Kind: 1, Path: "/a/b"}, {Kind: 2, Path: "/b"}, {Kind: 2, Path: "/a/b"}, {Kind: 2, Path: "/b/a"}, {Kind: 3, Path: "/b", Data: "a"}, {Kind: 3, Path: "/a/b", Data: "../b"}, {Kind: 3, Path: "/a", Data: "/b"}, {Kind: 3, Path: "/b", Data: "."},
		{Kind: 4, Path: "/b", Other: "/a/b"}, {Kind: 4, Path: "/b", Other: "/a"}, {Kind: 4, Path: "/a/b", Other: "/c"}, {Kind: 5, Path: "/a"}, {Kind: 5, Path: "/b"}, {Kind: 5, Path: "/a/b"}, {Kind: 6, Path: "/a"}, {Kind: 6, Path: "/a/b"}, {Kind: 6, Path: "/b/.."},
		{Kind: 7, Path: "/a", Other: "/b"}, {Kind: 7, Path: "/b", Other: "/a"}, {Kind: 7, Path: "/b", Other: "/a/b"}, {Kind: 7, Path: "/a/b", Other: "/b"}, {Kind: 7, Path: "/a", Other: "/a/b"}, {Kind: 7, Path: "/b/a", Other: "/c"},
		{Kind: 8, Path: "/b", Off: 1, Data: "x"}, {Kind: 8, Path: "/a/b", Data: "yz"}, {Kind: 9, Path: "/b", Off: 2}, {Kind: 9, Path: "/a"}, {Kind: 10, Path: "/", Off: 5}, {Kind: 10, Path: "/a/b", Off: 6},
	}
	told := map[[2]int]int{}
	allRows(t, graph.New(), pool, 4, told)
	for kind := 1; kind <= 10; kind++ {
		if told[[2]int{kind, 0}] < 10 {
			t.Errorf("kind %d: done %d times", kind, told[[2]int{kind, 0}])
		}
	}
}

// drawnPath is a path of few names.
func drawnPath(r *rand.Rand) string {
	switch r.IntN(60) {
	case 0:
		return ""
	case 1:
		return "/a/\x00"
	case 2:
		return "/b/123456789"
	case 3:
		return strings.Repeat("/", 120+r.IntN(12))
	}
	names := []string{"a", "b", "c", "a", "b", "c", "d", "e", "..", "."}
	p := some(r, []string{"", "/", "/", "//"})
	many := 1 + r.IntN(4)
	for n := range many {
		if n > 0 {
			p += "/"
		}
		p += some(r, names)
	}
	return p + some(r, []string{"", "", "", "/"})
}

// drawnCall is a call of a kind, with arguments that are mostly right.
func drawnCall(r *rand.Rand, kind int) Call {
	c := Call{Kind: kind, Path: drawnPath(r), Other: drawnPath(r), Off: r.IntN(12), Many: r.IntN(70)}
	if r.IntN(10) == 0 {
		c.Off = some(r, []int{-1, 0, 62, 63, 64, 65, 4095, 4096, math.MaxInt, math.MinInt})
	}
	if r.IntN(20) == 0 {
		c.Many = some(r, []int{-1, math.MaxInt, math.MinInt})
	}
	c.Data = sixtyFour()[:1+r.IntN(10)]
	switch {
	case kind == 3 && r.IntN(10) > 0:
		c.Data = some(r, []string{drawnPath(r), some(r, []string{"a", "b", "../a", "/c", "..", "c/d"})})
	case r.IntN(15) == 0:
		c.Data = strings.Repeat("\x00", r.IntN(70))
	}
	return c
}

func TestLongRows(t *testing.T) {
	r := rand.New(rand.NewPCG(16, 2))
	told := map[[2]int]int{}
	for k := range 60 {
		g := graph.New()
		kinds := []int{1, 2, 3, 4, 5, 6, 7, 8, 9, 10, 11, 12, 13, 14}
		if k%3 == 0 {
			// Few of those that take away, so that it grows.
			kinds = []int{1, 1, 1, 1, 2, 2, 2, 3, 3, 4, 4, 4, 7, 8, 10}
		}
		if k%3 == 1 {
			// Two names in two directories, so that some have as many as there can be.
			kinds = []int{4, 4, 4, 4, 12}
			for n, c := range []Call{{Kind: 2, Path: "a"}, {Kind: 1, Path: "b"}, {Kind: 1, Path: "c"}} {
				g, _ = done(t, g, c, api.Stamp{Time: int64(1 + n)})
			}
		}
		if k%10 == 0 {
			g = crowded(t)
		}
		for range 300 {
			c := drawnCall(r, some(r, kinds))
			s := api.Stamp{Time: 1 + r.Int64N(500), Rep: r.IntN(8)}
			var e api.Errno
			if of(c.Kind, 11, 12, 13, 14) {
				_, e = asked(t, g, c)
			} else {
				g, e = done(t, g, c, s)
			}
			told[[2]int{c.Kind, int(e)}]++
		}
	}
	wantAllTold(t, told)
}

// R3, R4: nothing is kept, and nothing that is told is shared.

func TestWhatWasAskedIsNothingToWhatIsAsked(t *testing.T) {
	r := rand.New(rand.NewPCG(16, 3))
	g, other := laid(t), crowded(t)
	was := g.Copy()
	var pool []Call
	for _, kind := range append(changing(), asking()...) {
		for range 150 {
			c := some(r, variants(kind)).by(some(r, allPaths())).to(some(r, allPaths()))
			pool = append(pool, c, good(kind))
		}
	}
	type answer struct {
		o      api.Op
		a      Answer
		e1, e2 api.Errno
	}
	all := func(g *graph.Graph, c Call) answer {
		var x answer
		x.o, x.e1 = Plan(g, c, id(nNew))
		x.a, x.e2 = Ask(g, c)
		return x
	}
	first := make([]answer, len(pool))
	for k, c := range pool {
		first[k] = all(g, c)
	}
	for range 3 {
		for _, k := range r.Perm(len(pool)) {
			if r.IntN(2) == 0 {
				all(other, some(r, pool))
				all(nil, some(r, pool))
			}
			for _, g := range []*graph.Graph{g, g.Copy()} {
				if got := all(g, pool[k]); !reflect.DeepEqual(got, first[k]) {
					t.Fatalf("%+v: %+v; at first %+v", pool[k], got, first[k])
				}
			}
		}
	}
	if !reflect.DeepEqual(g, was) {
		t.Fatal(shown(g))
	}
}

func TestNamesThatAreToldAreTheAskersOwn(t *testing.T) {
	g := laid(t)
	one, _ := Ask(g, Call{Kind: Readdir, Path: "/d"})
	other, _ := Ask(g, Call{Kind: Readdir, Path: "/d"})
	want := slices.Clone(other.Names)
	for k := range one.Names {
		one.Names[k] = "turned"
	}
	one.Names = append(one.Names[:1], "more")
	if !slices.Equal(other.Names, want) {
		t.Fatal(other.Names)
	}
	wantAsk(t, g, Call{Kind: Readdir, Path: "/d"}, Answer{Names: want})
	// And stay, when the graph is turned.
	if e := apply.Do(g, api.Op{Stamp: id(nNew), Kind: api.Unlink, At: id(nD), Ino: id(nSix), Name: "6a"}); e != 0 {
		t.Fatal(e)
	}
	if !slices.Equal(other.Names, want) {
		t.Fatal(other.Names)
	}
	wantAsk(t, g, Call{Kind: Readdir, Path: "/d"}, Answer{Names: want[1:]})
}

// P1: graphs that aren't fine, of which nothing else is promised.

func TestGraphsThatAreNotFine(t *testing.T) {
	loose, big := laid(t), laid(t)
	for n, kind := range []int{api.Dir, api.File, api.Sym, api.Dir} {
		loose.Make(id(50+n), kind)
	}
	tie(t, loose, 50, "in", 53)
	tie(t, loose, nRoot, "bad", 52)
	for n := range nNew {
		big.Set(id(n), -1, strings.Repeat("x", 65+n*100))
	}
	for _, g := range []*graph.Graph{{}, loose, big} {
		was := g.Copy()
		for _, kind := range append(changing(), asking()...) {
			for _, c := range variants(kind) {
				for _, p := range append(allPaths(), "/bad", "/bad/x") {
					c := c.by(p).to("/d/new")
					if o, e := Plan(g, c, id(nNew)); (e == 0) != op.May(o) || e != 0 && o != (api.Op{}) {
						t.Fatalf("%+v: %+v, error %d", c, o, e)
					}
					if a, e := Ask(g, c); e != 0 && !sameAnswers(a, Answer{}) {
						t.Fatalf("%+v: %+v, error %d", c, a, e)
					}
				}
			}
		}
		if !sameGraphs(g, was) {
			t.Fatal(shown(g))
		}
	}
}

// P1, P16.3: whatever comes, it ends, and is answered as the plain file system answers it.

func FuzzCalls(f *testing.F) {
	f.Add(uint64(1), 1, "/new", "", "", 0, 0, int64(99), 1)
	f.Add(uint64(2), 7, "/d/e", "/l/new", "", 0, 0, int64(99), 1)
	f.Add(uint64(3), 8, "/m", "", "text", 60, 0, int64(99), 7)
	f.Add(uint64(4), 13, "l/f", "", "", 1, 2, int64(0), -1)
	f.Add(uint64(5), 3, "/d/abs/x/..", "", "\x00", math.MaxInt, math.MinInt, int64(1), 0)
	f.Fuzz(func(t *testing.T, seed uint64, kind int, p, other, data string, off, many int, time int64, rep int) {
		r := rand.New(rand.NewPCG(seed, 16))
		g := laid(t)
		for range seed % 40 {
			g, _ = done(t, g, drawnCall(r, 1+r.IntN(10)), api.Stamp{Time: 200 + r.Int64N(500), Rep: r.IntN(8)})
		}
		c := Call{Kind: kind, Off: off, Many: many, Path: p, Other: other, Data: data}
		s := api.Stamp{Time: time, Rep: rep}
		for k := range 16 {
			c.Kind = kind
			if k > 0 {
				c.Kind = k
			}
			asked(t, g, c)
			if time >= 1 && time <= 1<<30 && rep >= 0 && rep <= 7 {
				done(t, g, c, s)
			} else if o, e := Plan(g, c, s); o != (api.Op{}) || e == 0 {
				t.Fatalf("Plan of %+v, %v: %+v, error %d", c, s, o, e)
			}
		}
	})
}
