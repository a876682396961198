package path

import (
	"math"
	"math/rand/v2"
	"reflect"
	"slices"
	"strconv"
	"strings"
	"testing"

	"thimble/api"
	"thimble/audit"
	"thimble/graph"
)

// plain is a graph's lists, in which all is looked for; it goes a path as the chapter's words say it, but each link's path by itself, to its end.
type plain struct {
	inodes  []api.Inode
	entries []api.Entry
}

func plainOf(g *graph.Graph) plain {
	return plain{g.Inodes(), g.Entries()}
}

func (p plain) get(id api.Stamp) (api.Inode, bool) {
	for _, i := range p.inodes {
		if i.Id == id {
			return i, true
		}
	}
	return api.Inode{}, false
}

func (p plain) kind(s Spot) int {
	if !s.There {
		return 0
	}
	i, _ := p.get(s.Ino)
	return i.Kind
}

// plainSplit goes a path byte by byte.
func plainSplit(p string) ([]string, api.Errno) {
	var parts []string
	part, isZero, isLong := "", false, len(p) > 128
	for i := range len(p) + 1 {
		if i < len(p) && p[i] != 47 {
			part += p[i : i+1]
			isZero = isZero || p[i] == 0
			continue
		}
		isLong = isLong || len(part) > 8
		if part != "" && part != "." {
			parts = append(parts, part)
		}
		part = ""
	}
	switch {
	case p == "":
		return nil, 3
	case isLong:
		return nil, 10
	case isZero:
		return nil, 1
	}
	return parts, 0
}

func (p plain) step(s Spot, part string) Spot {
	for _, e := range p.entries {
		if part == ".." && e.Ino == s.Ino {
			return Spot{Ino: e.At, There: true}
		}
		if part != ".." && e.At == s.Ino && e.Name == part {
			return Spot{At: e.At, Name: part, Ino: e.Ino, There: true}
		}
	}
	if part == ".." {
		return Spot{There: s.Ino == api.Stamp{}}
	}
	return Spot{At: s.Ino, Name: part}
}

// through is where a spot leads, if it is a link's; links are how many were followed.
func (p plain) through(s Spot, links *int) (Spot, api.Errno) {
	if p.kind(s) != 3 {
		return s, 0
	}
	if *links++; *links > 40 {
		return Spot{}, 9
	}
	i, _ := p.get(s.Ino)
	return p.lead(Spot{Ino: s.At, There: true}, i.Data, true, links)
}

// lead is where a path leads from a spot.
func (p plain) lead(s Spot, path string, follow bool, links *int) (Spot, api.Errno) {
	parts, e := plainSplit(path)
	if e != 0 {
		return Spot{}, e
	}
	if path[0] == 47 {
		s = Spot{There: true}
	}
	for _, part := range parts {
		if s, e = p.through(s, links); e != 0 {
			return Spot{}, e
		}
		switch p.kind(s) {
		case 0:
			return Spot{}, 3
		case 2:
			return Spot{}, 6
		}
		s = p.step(s, part)
	}
	if !follow {
		return s, 0
	}
	return p.through(s, links)
}

func (p plain) find(at api.Stamp, path string, follow bool) (Spot, api.Errno) {
	_, e := plainSplit(path)
	_, there := p.get(at)
	switch {
	case e != 0:
		return Spot{}, e
	case !there:
		return Spot{}, 3
	}
	links := 0
	return p.lead(Spot{Ino: at, There: true}, path, follow, &links)
}

// homes are the paths of all directories under the root, found from there on downward.
func (p plain) homes() map[api.Stamp]string {
	all := map[api.Stamp]string{}
	var down func(dir api.Stamp, home string)
	down = func(dir api.Stamp, home string) {
		for _, e := range p.entries {
			if i, _ := p.get(e.Ino); e.At == dir && i.Kind == 1 {
				all[e.Ino] = home + "/" + e.Name
				down(e.Ino, all[e.Ino])
			}
		}
	}
	down(api.Stamp{}, "")
	all[api.Stamp{}] = "/"
	return all
}

// no is a stamp that may be, and that no test makes an inode of.
func no() api.Stamp {
	return api.Stamp{Time: 999, Rep: 3}
}

// strangers are stamps that are no inode's: some may be, and some may not.
func strangers() []api.Stamp {
	return []api.Stamp{
		no(), {Time: 1 << 30, Rep: 7}, {Rep: 1}, {Rep: -1}, {Time: -1}, {Time: 1, Rep: 8}, {Time: 1<<30 + 1},
		{Time: math.MaxInt64, Rep: math.MaxInt}, {Time: math.MinInt64, Rep: math.MinInt},
	}
}

// world is a graph that grows in a test.
type world struct {
	t    testing.TB
	g    *graph.Graph
	made int
}

func begun(t testing.TB) *world {
	return &world{t: t, g: graph.New()}
}

// loose is a new inode without entry.
func (w *world) loose(kind int, data string) api.Stamp {
	w.t.Helper()
	w.made++
	// The numbers neither rise nor fall, so that none of them tells which inode is above which.
	id := api.Stamp{Time: int64(w.made * 7 % 41), Rep: w.made % 8}
	if e := w.g.Make(id, kind); e != 0 {
		w.t.Fatalf("Make: error %d", e)
	}
	if e := w.g.Set(id, 0, data); e != 0 {
		w.t.Fatalf("Set: error %d", e)
	}
	return id
}

func (w *world) tie(at api.Stamp, name string, id api.Stamp) {
	w.t.Helper()
	if e := w.g.Tie(api.Entry{At: at, Name: name, Ino: id}); e != 0 {
		w.t.Fatalf("Tie %q: error %d", name, e)
	}
}

func (w *world) untie(at api.Stamp, name string) {
	w.t.Helper()
	if _, e := w.g.Untie(at, name); e != 0 {
		w.t.Fatalf("Untie %q: error %d", name, e)
	}
}

func (w *world) inode(at api.Stamp, name string, kind int, data string) api.Stamp {
	w.t.Helper()
	id := w.loose(kind, data)
	w.tie(at, name, id)
	return id
}

func (w *world) dir(at api.Stamp, name string) api.Stamp {
	w.t.Helper()
	return w.inode(at, name, api.Dir, "")
}

func (w *world) file(at api.Stamp, name string) api.Stamp {
	w.t.Helper()
	return w.inode(at, name, api.File, "text")
}

func (w *world) link(at api.Stamp, name, target string) api.Stamp {
	w.t.Helper()
	return w.inode(at, name, api.Sym, target)
}

// chain is a row of directories, each in the one ahead, with names of so many bytes.
func (w *world) chain(many, bytes int) []api.Stamp {
	w.t.Helper()
	l := []api.Stamp{{}}
	for n := range many {
		l = append(l, w.dir(l[n], strings.Repeat("n", bytes-1)+string(rune('0'+n))))
	}
	return l
}

func (w *world) wantFine() {
	w.t.Helper()
	if l := audit.Check(w.g.Inodes(), w.g.Entries()); len(l) > 0 {
		w.t.Fatalf("the test's graph has faults: %v", l)
	}
}

// ids are all inodes' numbers.
func (w *world) ids() []api.Stamp {
	var l []api.Stamp
	for _, i := range w.g.Inodes() {
		l = append(l, i.Id)
	}
	return l
}

func (w *world) dirs() []api.Stamp {
	return slices.DeleteFunc(w.ids(), func(id api.Stamp) bool {
		i, _ := w.g.Get(id)
		return i.Kind != api.Dir
	})
}

// question is what Find may be asked.
type question struct {
	at     api.Stamp
	path   string
	follow bool
}

// answer is what Find tells.
type answer struct {
	Spot
	e api.Errno
}

func ask(g *graph.Graph, q question) answer {
	s, e := Find(g, q.at, q.path, q.follow)
	return answer{s, e}
}

// leads asks, and holds the answer against the plain one.
func (w *world) leads(q question) answer {
	w.t.Helper()
	got := ask(w.g, q)
	s, e := plainOf(w.g).find(q.at, q.path, q.follow)
	if want := (answer{s, e}); got != want {
		w.t.Fatalf("%+v: %+v; want %+v\nin %+v %+v", q, got, want, w.g.Inodes(), w.g.Entries())
	}
	if got.e != 0 && got.Spot != (Spot{}) {
		w.t.Fatalf("%+v: %+v with error %d", q, got.Spot, got.e)
	}
	return got
}

// want asks with follow and without, and wants the same of both.
func (w *world) want(at api.Stamp, path string, want Spot) {
	w.t.Helper()
	w.wantOne(at, path, false, answer{want, 0})
	w.wantOne(at, path, true, answer{want, 0})
}

func (w *world) wantErr(at api.Stamp, path string, e api.Errno) {
	w.t.Helper()
	w.wantOne(at, path, false, answer{Spot{}, e})
	w.wantOne(at, path, true, answer{Spot{}, e})
}

func (w *world) wantOne(at api.Stamp, path string, follow bool, want answer) {
	w.t.Helper()
	if got := w.leads(question{at, path, follow}); got != want {
		w.t.Fatalf("from %v %q (follow %v): %+v; want %+v", at, path, follow, got, want)
	}
}

// named is the spot of an entry that is there.
func named(at api.Stamp, name string, id api.Stamp) Spot {
	return Spot{At: at, Name: name, Ino: id, There: true}
}

// bare is the spot of an inode that was come to by no name.
func bare(id api.Stamp) Spot {
	return Spot{Ino: id, There: true}
}

// missing is the spot of an entry that isn't there.
func missing(at api.Stamp, name string) Spot {
	return Spot{At: at, Name: name}
}

func wantSplit(t *testing.T, p string, e api.Errno, parts ...string) {
	t.Helper()
	got, gotE := Split(p)
	if gotE != e || !slices.Equal(got, parts) {
		t.Fatalf("Split(%q): %q, error %d; want %q, error %d", p, got, gotE, parts, e)
	}
}

func some[T any](r *rand.Rand, l []T) T {
	return l[r.IntN(len(l))]
}

// The errors' numbers stand here once more as the document has them.

func TestNumbers(t *testing.T) {
	got := []int{int(api.OK), int(api.ErrArg), int(api.ErrNone), int(api.ErrFile), int(api.ErrLoop), int(api.ErrLong), api.MaxName, api.MaxPath, api.MaxFollow}
	if want := []int{0, 1, 3, 6, 9, 10, 8, 128, 40}; !slices.Equal(got, want) {
		t.Fatalf("%v; want %v", got, want)
	}
}

// P15.1

func TestSplit(t *testing.T) {
	wantSplit(t, "a", 0, "a")
	wantSplit(t, "/a", 0, "a")
	wantSplit(t, "a/", 0, "a")
	wantSplit(t, "a/b", 0, "a", "b")
	wantSplit(t, "/a/b/c/", 0, "a", "b", "c")
	wantSplit(t, "b/a/b", 0, "b", "a", "b")
	wantSplit(t, "//a///b//", 0, "a", "b")
	wantSplit(t, "./a/././b/.", 0, "a", "b")
	wantSplit(t, "..", 0, "..")
	wantSplit(t, "/../a/../..", 0, "..", "a", "..", "..")
	wantSplit(t, "...", 0, "...")
	wantSplit(t, ".a/a./..a/a../.../.b.", 0, ".a", "a.", "..a", "a..", "...", ".b.")
	wantSplit(t, " / a /\\/*", 0, " ", " a ", "\\", "*")
	wantSplit(t, "\xff/\xc3\xa9/\xe9", 0, "\xff", "\xc3\xa9", "\xe9")
}

func TestSplitOfNothing(t *testing.T) {
	wantSplit(t, "", 3)
}

func TestSplitOfSlashesAndPointsAlone(t *testing.T) {
	for _, p := range []string{"/", "//", "///", ".", "./", "/.", "/./", "./.", "././.", "//.//.//", strings.Repeat("/", 128), strings.Repeat("./", 64), strings.Repeat("/.", 64)} {
		wantSplit(t, p, 0)
	}
}

// lengthened are paths of so many bytes, of several kinds.
func lengthened(n int) []string {
	return []string{
		strings.Repeat("/", n),
		strings.Repeat("/", n-1) + "a",
		"a" + strings.Repeat("/", n-1),
		strings.Repeat("a/", n/2) + strings.Repeat("b", n%2),
		strings.Repeat("./", n/2) + strings.Repeat(".", n%2),
		strings.Repeat("../", n/3) + strings.Repeat("c", n%3),
		strings.Repeat("/12345678", n/9) + strings.Repeat("/", n%9),
	}
}

func TestSplitOfLongPaths(t *testing.T) {
	for _, n := range []int{1, 2, 127, 128} {
		for _, p := range lengthened(n) {
			parts, _ := plainSplit(p)
			wantSplit(t, p, 0, parts...)
		}
	}
	wantSplit(t, strings.Repeat("/12345678", 14)+"/a", 0, append(slices.Repeat([]string{"12345678"}, 14), "a")...)
	for _, n := range []int{129, 130, 136, 137, 256, 384, 1000, 1 << 16} {
		for _, p := range lengthened(n) {
			wantSplit(t, p, 10)
		}
	}
	// Characters that are longer than a byte: it is the bytes that count.
	wantSplit(t, strings.Repeat("\xc3\xa9/", 42)+"\xc3\xa9", 0, slices.Repeat([]string{"\xc3\xa9"}, 43)...)
	wantSplit(t, strings.Repeat("\xc3\xa9/", 43), 10)
}

func TestSplitOfLongParts(t *testing.T) {
	for _, part := range []string{"12345678", "........", ".......x", "\xff\xff\xff\xff\xff\xff\xff\xff", "\xc3\xa9\xc3\xa9\xc3\xa9\xc3\xa9"} {
		for _, longer := range []string{part + "9", "9" + part, part + ".", part + part} {
			for _, around := range [][2]string{{"", ""}, {"/", ""}, {"", "/"}, {"a/", "/b"}, {"/a/b/", ""}, {"", "/a/b"}, {"./", "/."}, {"//", "//"}} {
				parts, _ := plainSplit(around[0] + "X" + around[1])
				parts[slices.Index(parts, "X")] = part
				wantSplit(t, around[0]+part+around[1], 0, parts...)
				wantSplit(t, around[0]+longer+around[1], 10)
			}
		}
	}
	wantSplit(t, "1234/5678", 0, "1234", "5678")
	wantSplit(t, strings.Repeat(".", 9), 10)
	// Characters that are longer than a byte: it is the bytes that count.
	wantSplit(t, "\xc3\xa9\xc3\xa9\xc3\xa9\xc3\xa9\xc3\xa9", 10)
}

func TestSplitOfEachByte(t *testing.T) {
	for b := range 256 {
		one := string([]byte{byte(b)})
		switch b {
		case 0:
			wantSplit(t, one, 1)
		case '/', '.':
			wantSplit(t, one, 0)
		default:
			wantSplit(t, one, 0, one)
			wantSplit(t, "/a"+one+"/"+one+"b/", 0, "a"+one, one+"b")
		}
	}
}

func TestSplitOfAByte0Anywhere(t *testing.T) {
	for _, p := range []string{"abc", "/a/./b", "12345678/../x", "./..", strings.Repeat("a/", 64)} {
		for i := range len(p) {
			turned := p[:i] + "\x00" + p[i+1:]
			if parts, e := plainSplit(p); e != 0 || len(parts) == 0 {
				t.Fatal(p)
			}
			// One that stands for a slash may make a part that is too long, which is told first.
			_, want := plainSplit(turned)
			if want != 1 && !(want == 10 && p[i] == '/') {
				t.Fatal(turned, want)
			}
			wantSplit(t, turned, want)
		}
	}
	wantSplit(t, "\x00", 1)
	wantSplit(t, "a/b\x00", 1)
	wantSplit(t, "\x00\x00\x00", 1)
	wantSplit(t, "1234567\x00", 1)
	wantSplit(t, "/.\x00", 1)
	wantSplit(t, strings.Repeat("/", 127)+"\x00", 1)
	wantSplit(t, "0", 0, "0")
}

func TestSplitTellsTheFirstError(t *testing.T) {
	// Too long, and a byte 0.
	wantSplit(t, strings.Repeat("/", 128)+"\x00", 10)
	wantSplit(t, "\x00"+strings.Repeat("/", 128), 10)
	wantSplit(t, strings.Repeat("\x00/", 65), 10)
	// A part too long, and a byte 0.
	wantSplit(t, "12345678\x00", 10)
	wantSplit(t, "\x00/123456789", 10)
	wantSplit(t, "123456789/\x00", 10)
	wantSplit(t, "a/123456789/b/\x00", 10)
	wantSplit(t, "\x00\x00\x00\x00\x00\x00\x00\x00\x00", 10)
	// All three.
	wantSplit(t, strings.Repeat("\x00", 129), 10)
	wantSplit(t, strings.Repeat("123456789\x00/", 20), 10)
}

// texts are all of so many letters at most.
func texts(letters []string, most int) []string {
	all := []string{""}
	for k, n := 0, 0; n < most; n++ {
		for last := len(all); k < last; k++ {
			for _, l := range letters {
				all = append(all, all[k]+l)
			}
		}
	}
	return all
}

func TestSplitOfAllShortPaths(t *testing.T) {
	for _, p := range texts([]string{"/", ".", "a", "\x00"}, 6) {
		parts, e := plainSplit(p)
		wantSplit(t, p, e, parts...)
	}
	for _, p := range texts([]string{"/", ".", "a2345678"}, 6) {
		parts, e := plainSplit(p)
		wantSplit(t, p, e, parts...)
	}
}

func TestSplitOfAnyPath(t *testing.T) {
	r := rand.New(rand.NewPCG(15, 1))
	told := map[api.Errno]int{}
	for range 100_000 {
		b := make([]byte, r.IntN(140))
		// Few slashes in some of them, so that there are parts of all lengths.
		pool := "//////.ab\xff" + strings.Repeat("c", r.IntN(40)) + strings.Repeat("\x00", r.IntN(50)/49)
		for i := range b {
			b[i] = pool[r.IntN(len(pool))]
		}
		parts, e := plainSplit(string(b))
		wantSplit(t, string(b), e, parts...)
		told[e]++
	}
	for _, e := range []api.Errno{0, 1, 3, 10} {
		if told[e] < 100 {
			t.Errorf("error %d was told %d times", e, told[e])
		}
	}
}

func TestPartsThatWereToldMayBeWritten(t *testing.T) {
	p := "/a/./b/../c"
	first, _ := Split(p)
	second, _ := Split(p)
	// Beyond the end, too: neither list has room that is the other one's.
	first = append(first, "x")
	clear(first[:cap(first)])
	if want := []string{"a", "b", "..", "c"}; !slices.Equal(second, want) {
		t.Fatalf("%q", second)
	}
	wantSplit(t, p, 0, "a", "b", "..", "c")
}

// P15.2: paths that can't be, and from where there is nothing.

// badPaths are paths of each of Split's errors.
func badPaths() map[string]api.Errno {
	return map[string]api.Errno{
		"":                                3,
		strings.Repeat("/", 129):          10,
		strings.Repeat("a/", 65):          10,
		"123456789":                       10,
		"/d/123456789/..":                 10,
		"\x00":                            1,
		"/d/\x00":                         1,
		"12345678\x00":                    10,
		strings.Repeat("\x00/", 65):       10,
		strings.Repeat("/", 127) + "\x00": 1,
	}
}

func TestFindOfPathsThatCantBe(t *testing.T) {
	w, _ := laid(t)
	for p, e := range badPaths() {
		for _, at := range append(w.ids(), strangers()...) {
			w.wantErr(at, p, e)
			for _, g := range []*graph.Graph{nil, new(graph.Graph)} {
				if got := ask(g, question{at, p, true}); got != (answer{Spot{}, e}) {
					t.Fatalf("%q in no graph: %+v", p, got)
				}
			}
		}
	}
}

func TestFindFromNowhere(t *testing.T) {
	w, _ := laid(t)
	for _, at := range strangers() {
		for _, p := range []string{"/", ".", "..", "d", "/d", "/d/f/x", "/o", "//", "nowhere"} {
			w.wantErr(at, p, 3)
		}
	}
	// What was there once.
	id := w.dir(api.Stamp{}, "once")
	w.want(id, "/d/..", bare(api.Stamp{}))
	w.untie(api.Stamp{}, "once")
	w.g.Drop(id)
	w.wantErr(id, "/d/..", 3)
}

func TestFindInNoGraph(t *testing.T) {
	for _, at := range append(strangers(), api.Stamp{}, api.Stamp{Time: 1}) {
		for _, p := range []string{"/", ".", "..", "d", "/d"} {
			for _, follow := range []bool{false, true} {
				// One that graph.New didn't make has no root either.
				for _, g := range []*graph.Graph{nil, new(graph.Graph)} {
					if got := ask(g, question{at, p, follow}); got != (answer{Spot{}, 3}) {
						t.Fatalf("from %v %q: %+v", at, p, got)
					}
				}
			}
		}
	}
}

// P15.2: directories and files.

// laid is a graph with some of all, and its inodes by paths.
func laid(t testing.TB) (*world, map[string]api.Stamp) {
	t.Helper()
	w := begun(t)
	m := map[string]api.Stamp{"/": {}}
	m["/d"] = w.dir(m["/"], "d")
	m["/d/e"] = w.dir(m["/d"], "e")
	m["/d/e/g"] = w.file(m["/d/e"], "g")
	m["/d/f"] = w.file(m["/d"], "f")
	m["/f"] = w.file(m["/"], "f")
	m["/e"] = w.dir(m["/"], "e")
	m["/e/12345678"] = w.dir(m["/e"], "12345678")
	w.tie(m["/"], "h", m["/d/f"])
	m["/l"] = w.link(m["/"], "l", "d")
	m["/r"] = w.link(m["/"], "r", "/d/e")
	m["/d/u"] = w.link(m["/d"], "u", "..")
	m["/d/s"] = w.link(m["/d"], "s", "f")
	m["/t"] = w.link(m["/"], "t", "d/s")
	m["/d/r"] = w.link(m["/d"], "r", "/f")
	m["/d/e/s"] = w.link(m["/d/e"], "s", "../s")
	m["/n"] = w.link(m["/"], "n", "nowhere")
	m["/n2"] = w.link(m["/"], "n2", "nowhere/x")
	m["/n3"] = w.link(m["/"], "n3", "f/x")
	m["/o"] = w.link(m["/"], "o", "o")
	m["/p"] = w.link(m["/"], "p", ".")
	m["/q"] = w.link(m["/"], "q", "/")
	m["/d/p"] = w.link(m["/d"], "p", "./")
	m["/d/q"] = w.link(m["/d"], "q", "//.")
	m["/b"] = w.link(m["/"], "b", "l/e/s")
	w.wantFine()
	return w, m
}

func TestFindFromTheRoot(t *testing.T) {
	w, m := laid(t)
	for _, at := range w.ids() {
		w.want(at, "/d", named(m["/"], "d", m["/d"]))
		w.want(at, "/d/e", named(m["/d"], "e", m["/d/e"]))
		w.want(at, "/d/e/g", named(m["/d/e"], "g", m["/d/e/g"]))
		w.want(at, "/d/f", named(m["/d"], "f", m["/d/f"]))
		w.want(at, "/f", named(m["/"], "f", m["/f"]))
		w.want(at, "/h", named(m["/"], "h", m["/d/f"]))
		w.want(at, "/e/12345678", named(m["/e"], "12345678", m["/e/12345678"]))
		w.want(at, "//d//e", named(m["/d"], "e", m["/d/e"]))
	}
}

func TestFindFromADirectory(t *testing.T) {
	w, m := laid(t)
	w.want(m["/"], "d", named(m["/"], "d", m["/d"]))
	w.want(m["/"], "d/e/g", named(m["/d/e"], "g", m["/d/e/g"]))
	w.want(m["/d"], "f", named(m["/d"], "f", m["/d/f"]))
	w.want(m["/d"], "e/g", named(m["/d/e"], "g", m["/d/e/g"]))
	w.want(m["/d/e"], "g", named(m["/d/e"], "g", m["/d/e/g"]))
	w.want(m["/d/e"], "f", missing(m["/d/e"], "f"))
	w.want(m["/e"], "f", missing(m["/e"], "f"))
}

func TestFindByNoName(t *testing.T) {
	w, m := laid(t)
	for path, id := range m {
		for _, p := range []string{"/", "//", "///", "/.", "/./", "/././/"} {
			w.want(id, p, bare(m["/"]))
		}
		i, _ := w.g.Get(id)
		for _, p := range []string{".", "./", ".//", "././.", "./././/."} {
			w.wantOne(id, p, false, answer{bare(id), 0})
			if i.Kind != api.Sym {
				w.wantOne(id, p, true, answer{bare(id), 0})
			}
		}
		if i.Kind == api.Dir && path != "/" {
			up, _ := w.g.Parent(id)
			w.want(id, "..", bare(up))
		}
	}
}

func TestFindOfTwoPoints(t *testing.T) {
	w, m := laid(t)
	// Of the root.
	for _, p := range []string{"..", "../", "../..", "./../.", "../../../.."} {
		w.want(m["/"], p, bare(m["/"]))
		w.want(m["/d/f"], "/"+p, bare(m["/"]))
	}
	w.want(m["/"], "../d", named(m["/"], "d", m["/d"]))
	w.want(m["/d/e"], "/../../e", named(m["/"], "e", m["/e"]))
	// Of a directory.
	w.want(m["/"], "d/..", bare(m["/"]))
	w.want(m["/"], "d/e/..", bare(m["/d"]))
	w.want(m["/"], "d/e/../..", bare(m["/"]))
	w.want(m["/d/e"], "..", bare(m["/d"]))
	w.want(m["/d/e"], "../", bare(m["/d"]))
	w.want(m["/d/e"], "../f", named(m["/d"], "f", m["/d/f"]))
	w.want(m["/d/e"], "../../../../../e", named(m["/"], "e", m["/e"]))
	w.want(m["/d/e"], "../e", named(m["/d"], "e", m["/d/e"]))
	w.want(m["/d/e"], "../x", missing(m["/d"], "x"))
	w.want(m["/"], "d/../d/../d", named(m["/"], "d", m["/d"]))
	// Behind a file, and behind what isn't there.
	w.wantErr(m["/"], "f/..", 6)
	w.wantErr(m["/"], "d/f/../f", 6)
	w.wantErr(m["/f"], "..", 6)
	w.wantErr(m["/f"], "./..", 6)
	w.wantErr(m["/"], "x/..", 3)
	w.wantErr(m["/"], "d/x/../f", 3)
	w.wantErr(m["/"], "d/../x/..", 3)
	// Three points, or two and more, are a name.
	w.want(m["/d"], "...", missing(m["/d"], "..."))
	w.want(m["/d"], "..a", missing(m["/d"], "..a"))
	w.wantErr(m["/d"], ".../..", 3)
}

func TestFindOfTwoPointsOfADirectoryThatMoves(t *testing.T) {
	w, m := laid(t)
	w.want(m["/d/e"], "..", bare(m["/d"]))
	w.untie(m["/d"], "e")
	w.tie(m["/e/12345678"], "x", m["/d/e"])
	w.want(m["/d/e"], "..", bare(m["/e/12345678"]))
	w.want(m["/d/e"], "../../..", bare(m["/"]))
	w.want(m["/"], "d/e", missing(m["/d"], "e"))
}

func TestFindOfANameThatIsNotThere(t *testing.T) {
	w, m := laid(t)
	w.want(m["/"], "x", missing(m["/"], "x"))
	w.want(m["/d/f"], "/x", missing(m["/"], "x"))
	w.want(m["/"], "d/x", missing(m["/d"], "x"))
	w.want(m["/"], "d/x/", missing(m["/d"], "x"))
	w.want(m["/"], "d/x/././/", missing(m["/d"], "x"))
	w.want(m["/d"], "d", missing(m["/d"], "d"))
	w.want(m["/"], "D", missing(m["/"], "D"))
	w.want(m["/"], "e/1234567", missing(m["/e"], "1234567"))
	w.want(m["/"], "12345678", missing(m["/"], "12345678"))
	w.want(m["/"], "e/12345678/12345678", missing(m["/e/12345678"], "12345678"))
	for b := range 256 {
		if b != 0 && b != '/' && b != '.' {
			name := "\xfe" + string([]byte{byte(b)})
			w.want(m["/"], "e/"+name, missing(m["/e"], name))
		}
	}
}

func TestFindBehindWhatIsNotThere(t *testing.T) {
	w, m := laid(t)
	w.wantErr(m["/"], "x/y", 3)
	w.wantErr(m["/"], "x/d", 3)
	w.wantErr(m["/"], "d/x/e", 3)
	w.wantErr(m["/d"], "x/e/g", 3)
	w.wantErr(m["/d/f"], "/x/e/g", 3)
}

func TestFindBehindAFile(t *testing.T) {
	w, m := laid(t)
	w.want(m["/"], "f/", named(m["/"], "f", m["/f"]))
	w.want(m["/"], "f/.", named(m["/"], "f", m["/f"]))
	w.wantErr(m["/"], "f/x", 6)
	w.wantErr(m["/"], "f/f", 6)
	w.wantErr(m["/"], "d/f/x", 6)
	w.wantErr(m["/"], "d/f/x/y", 6)
	w.wantErr(m["/"], "h/x", 6)
}

func TestFindFromAFile(t *testing.T) {
	w, m := laid(t)
	for _, path := range []string{"/f", "/d/f", "/d/e/g"} {
		w.want(m[path], ".", bare(m[path]))
		w.want(m[path], "/d", named(m["/"], "d", m["/d"]))
		w.wantErr(m[path], "f", 6)
		w.wantErr(m[path], "x", 6)
		w.wantErr(m[path], "..", 6)
		w.wantErr(m[path], "./x/y", 6)
	}
}

// P15.2: symbolic links.

func TestFindOfALinkInTheMiddle(t *testing.T) {
	w, m := laid(t)
	w.want(m["/"], "l/f", named(m["/d"], "f", m["/d/f"]))
	w.want(m["/"], "l/e/g", named(m["/d/e"], "g", m["/d/e/g"]))
	w.want(m["/"], "l/x", missing(m["/d"], "x"))
	w.want(m["/"], "l/..", bare(m["/"]))
	w.want(m["/"], "l/e/..", bare(m["/d"]))
	w.want(m["/"], "r/g", named(m["/d/e"], "g", m["/d/e/g"]))
	w.want(m["/"], "r/..", bare(m["/d"]))
	w.want(m["/"], "r/../f", named(m["/d"], "f", m["/d/f"]))
	w.want(m["/"], "d/u/e", named(m["/"], "e", m["/e"]))
	w.want(m["/"], "l/u/l/u/l/f", named(m["/d"], "f", m["/d/f"]))
	w.want(m["/d"], "u/u", missing(m["/"], "u"))
	w.want(m["/e"], "../l/e", named(m["/d"], "e", m["/d/e"]))
	w.want(m["/"], "p/p/p/d", named(m["/"], "d", m["/d"]))
	w.want(m["/"], "d/p/f", named(m["/d"], "f", m["/d/f"]))
	w.want(m["/"], "d/q/f", named(m["/"], "f", m["/f"]))
	w.want(m["/"], "q/..", bare(m["/"]))
	w.wantErr(m["/"], "n/x", 3)
	w.wantErr(m["/"], "n/..", 3)
	w.wantErr(m["/"], "n2/x", 3)
	w.wantErr(m["/"], "n3/x", 6)
	w.wantErr(m["/"], "d/s/x", 6)
	w.wantErr(m["/"], "d/s/..", 6)
	w.wantErr(m["/"], "t/..", 6)
	w.wantErr(m["/"], "o/x", 9)
	w.wantErr(m["/"], "o/..", 9)
}

// wantEnd wants of a path that ends with a link one spot without follow, and another answer with it.
func (w *world) wantEnd(at api.Stamp, path string, link Spot, end answer) {
	w.t.Helper()
	w.wantOne(at, path, false, answer{link, 0})
	w.wantOne(at, path, true, end)
}

func TestFindOfALinkAtTheEnd(t *testing.T) {
	w, m := laid(t)
	for _, more := range []string{"", "/", "/.", "//./"} {
		w.wantEnd(m["/"], "l"+more, named(m["/"], "l", m["/l"]), answer{named(m["/"], "d", m["/d"]), 0})
		w.wantEnd(m["/e"], "/r"+more, named(m["/"], "r", m["/r"]), answer{named(m["/d"], "e", m["/d/e"]), 0})
		w.wantEnd(m["/"], "d/u"+more, named(m["/d"], "u", m["/d/u"]), answer{bare(m["/"]), 0})
		w.wantEnd(m["/"], "d/s"+more, named(m["/d"], "s", m["/d/s"]), answer{named(m["/d"], "f", m["/d/f"]), 0})
		w.wantEnd(m["/d"], "s"+more, named(m["/d"], "s", m["/d/s"]), answer{named(m["/d"], "f", m["/d/f"]), 0})
		w.wantEnd(m["/d"], "r"+more, named(m["/d"], "r", m["/d/r"]), answer{named(m["/"], "f", m["/f"]), 0})
		// Links to links.
		w.wantEnd(m["/"], "t"+more, named(m["/"], "t", m["/t"]), answer{named(m["/d"], "f", m["/d/f"]), 0})
		w.wantEnd(m["/d/e"], "s"+more, named(m["/d/e"], "s", m["/d/e/s"]), answer{named(m["/d"], "f", m["/d/f"]), 0})
		w.wantEnd(m["/d"], "/b"+more, named(m["/"], "b", m["/b"]), answer{named(m["/d"], "f", m["/d/f"]), 0})
		// By a link in the middle.
		w.wantEnd(m["/"], "l/s"+more, named(m["/d"], "s", m["/d/s"]), answer{named(m["/d"], "f", m["/d/f"]), 0})
		w.wantEnd(m["/"], "r/s"+more, named(m["/d/e"], "s", m["/d/e/s"]), answer{named(m["/d"], "f", m["/d/f"]), 0})
		// To what isn't there.
		w.wantEnd(m["/d"], "/n"+more, named(m["/"], "n", m["/n"]), answer{missing(m["/"], "nowhere"), 0})
		w.wantEnd(m["/"], "n2"+more, named(m["/"], "n2", m["/n2"]), answer{Spot{}, 3})
		w.wantEnd(m["/"], "n3"+more, named(m["/"], "n3", m["/n3"]), answer{Spot{}, 6})
		// To where no name leads.
		w.wantEnd(m["/"], "p"+more, named(m["/"], "p", m["/p"]), answer{bare(m["/"]), 0})
		w.wantEnd(m["/d"], "/q"+more, named(m["/"], "q", m["/q"]), answer{bare(m["/"]), 0})
		w.wantEnd(m["/"], "d/p"+more, named(m["/d"], "p", m["/d/p"]), answer{bare(m["/d"]), 0})
		w.wantEnd(m["/"], "d/q"+more, named(m["/d"], "q", m["/d/q"]), answer{bare(m["/"]), 0})
	}
}

func TestFindOfALinkWithSeveralNames(t *testing.T) {
	w, m := laid(t)
	// It leads from the directory of the entry by which it was come to.
	w.tie(m["/"], "again", m["/d/s"])
	w.tie(m["/d/e"], "again", m["/d/s"])
	w.tie(m["/d"], "again", m["/d/s"])
	w.wantEnd(m["/"], "d/s", named(m["/d"], "s", m["/d/s"]), answer{named(m["/d"], "f", m["/d/f"]), 0})
	w.wantEnd(m["/"], "d/again", named(m["/d"], "again", m["/d/s"]), answer{named(m["/d"], "f", m["/d/f"]), 0})
	w.wantEnd(m["/d"], "/again", named(m["/"], "again", m["/d/s"]), answer{named(m["/"], "f", m["/f"]), 0})
	w.wantEnd(m["/d"], "e/again", named(m["/d/e"], "again", m["/d/s"]), answer{missing(m["/d/e"], "f"), 0})
	w.wantErr(m["/d"], "e/again/x", 3)
	w.wantErr(m["/d"], "again/x", 6)
}

func TestFindFromALink(t *testing.T) {
	w, m := laid(t)
	// By no name it leads from the root, wherever its entry stands.
	w.wantEnd(m["/l"], ".", bare(m["/l"]), answer{named(m["/"], "d", m["/d"]), 0})
	w.wantEnd(m["/d/s"], ".", bare(m["/d/s"]), answer{named(m["/"], "f", m["/f"]), 0})
	w.wantEnd(m["/d/s"], "./.", bare(m["/d/s"]), answer{named(m["/"], "f", m["/f"]), 0})
	w.wantEnd(m["/d/u"], ".", bare(m["/d/u"]), answer{bare(m["/"]), 0})
	w.wantEnd(m["/d/p"], ".", bare(m["/d/p"]), answer{bare(m["/"]), 0})
	w.wantEnd(m["/d/e/s"], ".", bare(m["/d/e/s"]), answer{missing(m["/"], "s"), 0})
	w.wantEnd(m["/r"], ".", bare(m["/r"]), answer{named(m["/d"], "e", m["/d/e"]), 0})
	w.wantEnd(m["/n"], ".", bare(m["/n"]), answer{missing(m["/"], "nowhere"), 0})
	w.wantEnd(m["/n2"], ".", bare(m["/n2"]), answer{Spot{}, 3})
	w.wantEnd(m["/o"], ".", bare(m["/o"]), answer{Spot{}, 9})
	w.want(m["/l"], "f", named(m["/d"], "f", m["/d/f"]))
	w.want(m["/l"], "e/g", named(m["/d/e"], "g", m["/d/e/g"]))
	w.want(m["/l"], "..", bare(m["/"]))
	w.want(m["/r"], "g", named(m["/d/e"], "g", m["/d/e/g"]))
	w.want(m["/r"], "..", bare(m["/d"]))
	w.want(m["/d/u"], "d", named(m["/"], "d", m["/d"]))
	w.want(m["/d/p"], "d", named(m["/"], "d", m["/d"]))
	w.wantErr(m["/d/s"], "x", 6)
	w.wantErr(m["/n"], "x", 3)
	w.wantErr(m["/o"], "x", 9)
	// From the root it doesn't matter.
	w.want(m["/o"], "/", bare(m["/"]))
	w.want(m["/o"], "/d", named(m["/"], "d", m["/d"]))
}

func TestFindFromALinkWithoutEntry(t *testing.T) {
	w, m := laid(t)
	id := w.loose(api.Sym, "d/f")
	w.wantEnd(id, ".", bare(id), answer{named(m["/d"], "f", m["/d/f"]), 0})
	w.wantErr(id, "x", 6)
}

func TestFindOfALinkWithPartsBehindIt(t *testing.T) {
	w, m := laid(t)
	w.link(m["/"], "z", "d/../d")
	w.link(m["/d"], "z", "../e/./12345678/..")
	w.want(m["/"], "z/f", named(m["/d"], "f", m["/d/f"]))
	w.want(m["/"], "z/z/12345678", named(m["/e"], "12345678", m["/e/12345678"]))
	w.want(m["/"], "z/z/../z/z/..", bare(m["/"]))
	w.wantOne(m["/"], "z/z", true, answer{bare(m["/e"]), 0})
	w.wantOne(m["/"], "z", true, answer{named(m["/"], "d", m["/d"]), 0})
	// The parts of both together may be more than a path's.
	many := strings.Repeat("e/../", 24)
	w.want(m["/"], "z/"+many+"f", named(m["/d"], "f", m["/d/f"]))
	w.link(m["/"], "long", strings.Repeat("d/../", 6)+"d")
	w.want(m["/"], "long/"+many+"f", named(m["/d"], "f", m["/d/f"]))
	w.link(m["/d"], "long", strings.Repeat("../d/", 6)+".")
	w.want(m["/"], strings.Repeat("long/", 20)+"long/f", named(m["/d"], "f", m["/d/f"]))
}

func TestFindOfALinkWhosePathCantBe(t *testing.T) {
	for target, e := range badPaths() {
		w, m := laid(t)
		id := w.link(m["/d"], "z", target)
		w.link(m["/"], "z", "d/z")
		w.wantEnd(m["/"], "d/z", named(m["/d"], "z", id), answer{Spot{}, e})
		w.wantEnd(m["/d"], "z/", named(m["/d"], "z", id), answer{Spot{}, e})
		w.wantEnd(id, ".", bare(id), answer{Spot{}, e})
		w.wantOne(m["/"], "z", true, answer{Spot{}, e})
		for _, p := range []string{"/d/z/x", "/d/z/..", "/d/z/f/x/y", "/z/x", "/l/z/../../.."} {
			w.wantErr(m["/e"], p, e)
		}
		w.wantErr(id, "..", e)
		w.want(id, "/d/f", named(m["/d"], "f", m["/d/f"]))
		// What is ahead of it, is told ahead of it.
		w.wantErr(m["/"], "x/z", 3)
		w.wantErr(m["/"], "f/z", 6)
	}
}

func TestFindOfALinkWhosePathIsLong(t *testing.T) {
	w, m := laid(t)
	id := w.link(m["/d"], "z", "")
	for _, n := range []int{33, 64, 127, 128} {
		w.g.Set(id, 0, strings.Repeat("/", n-1)+"f")
		w.wantOne(m["/"], "d/z", true, answer{named(m["/"], "f", m["/f"]), 0})
		w.g.Set(id, 0, "e"+strings.Repeat("/", n-1))
		w.want(m["/"], "d/z/g", named(m["/d/e"], "g", m["/d/e/g"]))
	}
	w.g.Set(id, 0, "/12345678")
	w.wantOne(m["/"], "d/z", true, answer{missing(m["/"], "12345678"), 0})
	w.g.Set(id, 0, "/123456789")
	w.wantOne(m["/"], "d/z", true, answer{Spot{}, 10})
}

// The data of what is no link are no path.
func TestFindOfDataThatLookLikeAPath(t *testing.T) {
	w, m := laid(t)
	for _, data := range []string{"", "..", "/", "/d", "\x00", strings.Repeat("x", 64)} {
		w.g.Set(m["/f"], 4095, data)
		w.want(m["/"], "f", named(m["/"], "f", m["/f"]))
		w.wantErr(m["/"], "f/e", 6)
		w.g.Set(m["/d"], 7, data)
		w.want(m["/"], "d/e", named(m["/d"], "e", m["/d/e"]))
	}
}

// P15.2: so many links that it is a loop.

func TestTheExample(t *testing.T) {
	w := begun(t)
	a := w.link(api.Stamp{}, "a", "a")
	w.wantEnd(api.Stamp{}, "/a", named(api.Stamp{}, "a", a), answer{Spot{}, 9})
	w.wantErr(api.Stamp{}, "/a/b", 9)
}

func TestFindOfManyLinksInTurn(t *testing.T) {
	w := begun(t)
	root := api.Stamp{}
	l := w.link(root, "l", ".")
	f := w.file(root, "f")
	for _, n := range []int{1, 2, 39, 40, 41, 42, 60} {
		path := strings.Repeat("l/", n)
		e := api.Errno(0)
		if n > 40 {
			e = 9
		}
		if e == 0 {
			w.want(root, path+"f", named(root, "f", f))
			w.want(root, path+"x", missing(root, "x"))
			w.want(root, path+"..", bare(root))
			w.wantOne(root, path, true, answer{bare(root), 0})
		} else {
			w.wantErr(root, path+"f", e)
			w.wantErr(root, path+"..", e)
			w.wantOne(root, path, true, answer{Spot{}, e})
		}
		// The last one isn't followed, and so it doesn't count.
		if n <= 41 {
			w.wantOne(root, path, false, answer{named(root, "l", l), 0})
		} else {
			w.wantOne(root, path, false, answer{Spot{}, 9})
		}
	}
}

// ladder is a row of links, each to the one ahead, the first one to a target; it tells the last one's name.
func (w *world) ladder(many int, target string) string {
	w.t.Helper()
	for n := range many {
		name := "s" + strconv.Itoa(n)
		w.link(api.Stamp{}, name, target)
		target = name
	}
	return target
}

func TestFindOfLinksToLinks(t *testing.T) {
	root := api.Stamp{}
	for many := 1; many <= 38; many++ {
		w := begun(t)
		f := w.file(root, "f")
		last := w.ladder(many, "f")
		w.wantOne(root, last, true, answer{named(root, "f", f), 0})
		w.wantErr(root, last+"/x", 6)
		w.wantErr(root, last+"/..", 6)
	}
	// Two ladders' worth, and then one more or less.
	w := begun(t)
	d := w.dir(root, "d")
	g := w.file(d, "g")
	u := w.link(d, "u", "..")
	last := w.ladder(19, "d")
	w.want(root, last+"/g", named(d, "g", g))
	w.want(root, last+"/u/"+last+"/g", named(d, "g", g)) // 39
	w.wantErr(root, last+"/u/"+last+"/u/"+last+"/g", 9)
	w.wantOne(root, last+"/u/"+last+"/u", false, answer{named(d, "u", u), 0}) // 39, and the one that isn't followed
	w.wantOne(root, last+"/u/"+last+"/u", true, answer{bare(root), 0})        // 40
	w.want(root, last+"/u/"+last+"/u/f", missing(root, "f"))                  // 40
	w.wantErr(root, last+"/u/"+last+"/u/s0/g", 9)                             // 41
	w.wantOne(root, last+"/u/"+last+"/u/s0", true, answer{Spot{}, 9})         // 41
	w.want(root, last+"/u/"+last+"/u/d/g", named(d, "g", g))                  // 40
	w.want(root, last+"/../"+last+"/../s0/g", named(d, "g", g))               // 39
	w.want(root, last+"/../"+last+"/../s1/g", named(d, "g", g))               // 40
	w.wantErr(root, last+"/../"+last+"/../s2/g", 9)                           // 41
	// Each call counts anew.
	w.want(root, last+"/g", named(d, "g", g))
}

func TestFindOfLoops(t *testing.T) {
	root := api.Stamp{}
	w := begun(t)
	d := w.dir(root, "d")
	a := w.link(root, "a", "b")
	w.link(root, "b", "d/c")
	w.link(d, "c", "/a")
	self := w.link(d, "self", "self/x")
	wide := w.link(d, "wide", "../d/./wide/..")
	w.wantEnd(root, "a", named(root, "a", a), answer{Spot{}, 9})
	w.wantErr(root, "a/b", 9)
	w.wantErr(root, "d/c/..", 9)
	w.wantEnd(root, "d/self", named(d, "self", self), answer{Spot{}, 9})
	w.wantErr(root, "d/self/..", 9)
	w.wantEnd(root, "d/wide", named(d, "wide", wide), answer{Spot{}, 9})
	// From the directory where the link stands: by no name it would be the root, where there is no such name.
	w.wantErr(self, "..", 3)
	w.wantEnd(self, ".", bare(self), answer{Spot{}, 3})
	w.wantEnd(a, ".", bare(a), answer{Spot{}, 9})
	w.want(a, "/d", named(root, "d", d))
}

func TestFindTellsALoopAheadOfWhatTheLinkHas(t *testing.T) {
	root := api.Stamp{}
	for target, e := range badPaths() {
		w := begun(t)
		w.link(root, "l", ".")
		bad := w.link(root, "z", target)
		w.wantOne(root, strings.Repeat("l/", 39)+"z", true, answer{Spot{}, e})
		w.wantErr(root, strings.Repeat("l/", 39)+"z/x", e)
		w.wantOne(root, strings.Repeat("l/", 40)+"z", true, answer{Spot{}, 9})
		w.wantErr(root, strings.Repeat("l/", 40)+"z/x", 9)
		w.wantOne(root, strings.Repeat("l/", 40)+"z", false, answer{named(root, "z", bad), 0})
	}
}

func TestFindWithTheMostLinksAndWhatIsBehind(t *testing.T) {
	root := api.Stamp{}
	w := begun(t)
	f := w.file(root, "f")
	w.link(root, "l", ".")
	most := strings.Repeat("l/", 40)
	w.want(root, most+"f", named(root, "f", f))
	w.wantErr(root, most+"f/x", 6)
	w.wantErr(root, most+"x/x", 3)
	w.want(root, most+"x", missing(root, "x"))
}

// P15.2: graphs that aren't fine are none of it, but each call ends, and none panics.

func TestFindInGraphsThatAreNotFine(t *testing.T) {
	w, m := laid(t)
	dir := w.loose(api.Dir, "")
	below := w.dir(dir, "x")
	w.tie(dir, "f", m["/f"])
	w.want(dir, ".", bare(dir))
	w.want(dir, "x", named(dir, "x", below))
	w.want(below, "..", bare(dir))
	w.want(below, "../f", named(dir, "f", m["/f"]))
	w.want(below, "/d", named(m["/"], "d", m["/d"]))
	// It has no parent: nothing is there.
	w.want(dir, "..", Spot{})
	w.wantErr(dir, "../x", 3)
	w.wantErr(below, "../../..", 3)
}

// P15.3

func wantHome(t testing.TB, g *graph.Graph, id api.Stamp, want string) {
	t.Helper()
	if got, ok := Home(g, id); !ok || got != want {
		t.Fatalf("the home of %v: %q, %v; want %q", id, got, ok, want)
	}
}

func wantNoHome(t testing.TB, g *graph.Graph, id api.Stamp) {
	t.Helper()
	if got, ok := Home(g, id); ok || got != "" {
		t.Fatalf("the home of %v: %q, %v; want none", id, got, ok)
	}
}

func TestHome(t *testing.T) {
	w, m := laid(t)
	for path, id := range m {
		if i, _ := w.g.Get(id); i.Kind == api.Dir {
			wantHome(t, w.g, id, path)
		} else {
			wantNoHome(t, w.g, id)
		}
	}
	wantHome(t, w.g, api.Stamp{}, "/")
	wantHome(t, graph.New(), api.Stamp{}, "/")
}

func TestHomeOfWhatIsNotThere(t *testing.T) {
	w, _ := laid(t)
	for _, id := range strangers() {
		wantNoHome(t, w.g, id)
		wantNoHome(t, nil, id)
	}
	wantNoHome(t, nil, api.Stamp{})
	wantNoHome(t, new(graph.Graph), api.Stamp{})
}

func TestHomeFarDown(t *testing.T) {
	for _, bytes := range []int{1, 4, 8} {
		w := begun(t)
		home := ""
		for n, id := range w.chain(39, bytes) {
			if n == 0 {
				wantHome(t, w.g, id, "/")
				continue
			}
			home += "/" + strings.Repeat("n", bytes-1) + string(rune('0'+n-1))
			wantHome(t, w.g, id, home)
		}
		if len(home) != 39*(bytes+1) {
			t.Fatal(len(home))
		}
	}
}

func TestHomeOfAnyName(t *testing.T) {
	w := begun(t)
	at, home := api.Stamp{}, ""
	for _, name := range []string{"...", "..a", ".a", "a.", " ", "\xff", "\\", "12345678", "\xc3\xa9", "\x01", "same", "same", "~"} {
		at, home = w.dir(at, name), home+"/"+name
		wantHome(t, w.g, at, home)
	}
}

func TestDirectoriesOfAnyNumber(t *testing.T) {
	w := begun(t)
	at, home := api.Stamp{}, ""
	for n, id := range []api.Stamp{{Time: 1 << 30, Rep: 7}, {Time: 1}, {Time: 1, Rep: 7}, {Time: 1 << 30}, {Time: 1, Rep: 1}} {
		if e := w.g.Make(id, api.Dir); e != 0 {
			t.Fatalf("Make: error %d", e)
		}
		name := "d" + strconv.Itoa(n)
		w.tie(at, name, id)
		w.want(at, name, named(at, name, id))
		w.want(id, "..", bare(at))
		at, home = id, home+"/"+name
		wantHome(t, w.g, id, home)
	}
	w.wantFine()
	w.wantFoundByHome()
}

func TestHomeOfWhatIsNotUnderTheRoot(t *testing.T) {
	w, m := laid(t)
	dir := w.loose(api.Dir, "")
	below := w.dir(dir, "x")
	deep := w.dir(below, "y")
	file := w.file(dir, "f")
	loose := w.loose(api.File, "")
	for _, id := range []api.Stamp{dir, below, deep, file, loose} {
		wantNoHome(t, w.g, id)
	}
	// A directory with a file that is in both isn't under the root by that.
	w.tie(dir, "h", m["/f"])
	wantNoHome(t, w.g, dir)
	wantHome(t, w.g, m["/d"], "/d")
	w.tie(m["/d/e"], "new", dir)
	wantHome(t, w.g, dir, "/d/e/new")
	wantHome(t, w.g, deep, "/d/e/new/x/y")
	wantNoHome(t, w.g, file)
	w.untie(m["/"], "d")
	for _, id := range []api.Stamp{m["/d"], m["/d/e"], dir, below, deep} {
		wantNoHome(t, w.g, id)
	}
	wantHome(t, w.g, m["/e"], "/e")
	wantHome(t, w.g, m["/"], "/")
}

func TestHomeOfADirectoryThatMoves(t *testing.T) {
	w, m := laid(t)
	w.untie(m["/d"], "e")
	w.tie(m["/e/12345678"], "a", m["/d/e"])
	wantHome(t, w.g, m["/d/e"], "/e/12345678/a")
	w.untie(m["/e"], "12345678")
	w.tie(m["/"], "a", m["/e/12345678"])
	wantHome(t, w.g, m["/d/e"], "/a/a")
	wantHome(t, w.g, m["/e/12345678"], "/a")
	wantHome(t, w.g, m["/d"], "/d")
}

// Names next to a directory's, of files, of links to it, and of others, don't matter.
func TestHomeAmongMany(t *testing.T) {
	w := begun(t)
	root := api.Stamp{}
	a := w.dir(root, "m")
	for _, name := range []string{"a", "l", "n", "z"} {
		w.file(root, name)
		w.link(root, name+"l", "m")
		w.dir(root, name+"d")
		w.dir(a, name)
	}
	id := w.dir(a, "m")
	wantHome(t, w.g, a, "/m")
	wantHome(t, w.g, id, "/m/m")
}

// P15.4

// wantFoundByHome wants each directory to be found by its home, from anywhere.
func (w *world) wantFoundByHome() {
	w.t.Helper()
	for _, id := range w.dirs() {
		home, ok := Home(w.g, id)
		if !ok {
			w.t.Fatalf("%v has no home", id)
		}
		want := answer{bare(id), 0}
		if e, there := w.entryOf(id); there {
			want.Spot = named(e.At, e.Name, id)
		}
		if len(home) > 128 {
			want = answer{Spot{}, 10}
		}
		for _, at := range w.ids() {
			for _, follow := range []bool{false, true} {
				if got := ask(w.g, question{at, home, follow}); got != want {
					w.t.Fatalf("%v from %v by its home %q: %+v; want %+v", id, at, home, got, want)
				}
			}
		}
	}
}

func (w *world) entryOf(id api.Stamp) (api.Entry, bool) {
	for _, e := range w.g.Entries() {
		if e.Ino == id {
			return e, true
		}
	}
	return api.Entry{}, false
}

func TestADirectoryIsFoundByItsHome(t *testing.T) {
	w, _ := laid(t)
	w.wantFoundByHome()
	begun(t).wantFoundByHome()
	for bytes := 1; bytes <= 8; bytes++ {
		w := begun(t)
		w.chain(39, bytes)
		w.wantFoundByHome()
	}
	// Homes of 128 bytes, and of 129: 14 names of 8 bytes, and one more.
	w = begun(t)
	l := w.chain(14, 8)
	short, long := w.dir(l[14], "1"), w.dir(l[14], "12")
	for id, n := range map[api.Stamp]int{short: 128, long: 129} {
		if home, _ := Home(w.g, id); len(home) != n {
			t.Fatal(len(home))
		}
	}
	w.wantFoundByHome()
}

// blown are paths that have points and slashes more.
func blown(p string) []string {
	l := []string{p + "/", p + "/.", p + "//./", strings.ReplaceAll(p, "/", "//"), strings.ReplaceAll(p, "/", "/./"), strings.ReplaceAll(p, "/", "/.//./")}
	for i := range len(p) {
		if p[i] == '/' {
			l = append(l, p[:i]+"/"+p[i:], p[:i]+"/."+p[i:])
		}
	}
	if p[0] == '/' {
		return append(l, "/"+p, "/."+p, "//./"+p)
	}
	return append(l, "./"+p, ".//"+p, "././"+p)
}

// wantSameBlown wants points and slashes more to change nothing, if the path isn't too long.
func (w *world) wantSameBlown(q question) {
	w.t.Helper()
	want := ask(w.g, q)
	for _, p := range blown(q.path) {
		expected := want
		if len(p) > 128 {
			expected = answer{Spot{}, 10}
		}
		if got := ask(w.g, question{q.at, p, q.follow}); got != expected {
			w.t.Fatalf("%+v with points and slashes more (%q): %+v; want %+v", q, p, got, expected)
		}
	}
}

// ways are paths of so many of some parts at most, from the root and not.
func ways(parts []string, most int) []string {
	l := []string{"/", "."}
	for _, p := range texts(prefixed("/", parts), most)[1:] {
		l = append(l, p, p[1:])
	}
	return l
}

func prefixed(with string, l []string) []string {
	var all []string
	for _, s := range l {
		all = append(all, with+s)
	}
	return all
}

func TestPointsAndSlashesMoreChangeNothing(t *testing.T) {
	w, m := laid(t)
	for _, p := range ways([]string{"d", "e", "f", "l", "u", "s", "p", "q", "x", ".."}, 3) {
		for _, at := range []string{"/", "/d/e", "/d/f", "/l"} {
			for _, follow := range []bool{false, true} {
				w.wantSameBlown(question{m[at], p, follow})
			}
		}
	}
	// As long as a path may be, and longer.
	for n := 120; n <= 132; n++ {
		w.wantOne(m["/"], "d"+strings.Repeat("/", n-3)+"e"+"/", false, answerOf(n, named(m["/d"], "e", m["/d/e"])))
		w.wantOne(m["/"], strings.Repeat("./", n/2)+strings.Repeat("/", n%2), true, answerOf(n, bare(m["/"])))
	}
}

// answerOf is a spot, or an error, if the path has too many bytes.
func answerOf(n int, s Spot) answer {
	if n > 128 {
		return answer{Spot{}, 10}
	}
	return answer{s, 0}
}

func TestPointsAndSlashesMoreInALinkChangeNothing(t *testing.T) {
	for _, target := range []string{"d", "/d", "d/e", "/d/e/", "..", ".", "/", "d/../f", "z", "nowhere"} {
		w, m := laid(t)
		z := w.link(m["/d"], "z", target)
		w.tie(m["/"], "z", z)
		for _, q := range []question{{m["/"], "z", true}, {m["/d"], "z", true}, {m["/d"], "z", false}, {m["/"], "d/z/e", true}, {z, ".", true}, {z, "f", false}} {
			w.g.Set(z, 0, target)
			want := ask(w.g, q)
			for _, more := range blown(target) {
				w.g.Set(z, 0, more)
				if got := w.leads(q); got != want {
					t.Fatalf("%+v with a link to %q: %+v; to %q: %+v", q, target, want, more, got)
				}
			}
		}
	}
}

// All that there is, held against the plain graph.

// sorts are what a name may be in the small graphs: nothing, a file, a directory, or a link to somewhere.
func sorts() []string {
	return []string{"", "file", "dir", "a", "/b", "..", "b/.."}
}

// put makes one of the sorts, and tells its number, if it is a directory.
func (w *world) put(at api.Stamp, name, sort string) (api.Stamp, bool) {
	w.t.Helper()
	switch sort {
	case "":
	case "file":
		w.file(at, name)
	case "dir":
		return w.dir(at, name), true
	default:
		w.link(at, name, sort)
	}
	return api.Stamp{}, false
}

// smallWorlds are all graphs with a and b in the root, and in a, if that is a directory.
func smallWorlds(t testing.TB, yield func(w *world)) {
	for _, a := range sorts() {
		for _, b := range sorts() {
			for _, below := range sorts() {
				for _, other := range sorts() {
					w := begun(t)
					dir, isDir := w.put(api.Stamp{}, "a", a)
					w.put(api.Stamp{}, "b", b)
					if isDir {
						w.put(dir, "a", below)
						w.put(dir, "b", other)
					} else if below+other != "" {
						continue
					}
					yield(w)
				}
			}
		}
	}
}

func TestAllSmallGraphs(t *testing.T) {
	paths := ways([]string{"a", "b", ".."}, 3)
	worlds, told := 0, map[api.Errno]int{}
	smallWorlds(t, func(w *world) {
		w.wantFine()
		worlds++
		for _, at := range w.ids() {
			for _, p := range paths {
				told[w.leads(question{at, p, false}).e]++
				told[w.leads(question{at, p, true}).e]++
			}
		}
		w.wantHomes()
	})
	if worlds != 7*6+7*7*7 || told[0]*told[3]*told[6]*told[9] == 0 {
		t.Fatal(worlds, told)
	}
}

// wantHomes wants the homes of all inodes.
func (w *world) wantHomes() {
	w.t.Helper()
	homes := plainOf(w.g).homes()
	for _, id := range w.ids() {
		if home, there := homes[id]; there {
			wantHome(w.t, w.g, id, home)
		} else {
			wantNoHome(w.t, w.g, id)
		}
	}
}

// drawnPath is a path of some parts.
func drawnPath(r *rand.Rand, most int) string {
	parts := []string{"a", "a", "b", "b", "c", "dd", "12345678", "..", "..", ".", "", "nowhere"}
	if r.IntN(50) == 0 {
		parts = append(parts, "123456789", "\x00", "a\x00")
	}
	p := strings.Repeat("/", r.IntN(2))
	for n := range 1 + r.IntN(most) {
		if n > 0 {
			p += "/"
		}
		p += some(r, parts)
	}
	return p
}

// drawnTarget is a path that a link may have.
func drawnTarget(r *rand.Rand) string {
	for {
		if p := drawnPath(r, 5); p != "" && len(p) <= 32 {
			return p
		}
	}
}

// drawn is a graph that is fine.
func drawn(t testing.TB, r *rand.Rand) *world {
	t.Helper()
	w := begun(t)
	names := []string{"a", "b", "c", "dd", "12345678"}
	for range r.IntN(60) {
		at, name := some(r, w.dirs()), some(r, names)
		if _, taken := w.g.Look(at, name); taken || w.made == 38 {
			continue
		}
		switch r.IntN(6) {
		case 0:
			w.file(at, name)
		case 1, 2:
			w.link(at, name, drawnTarget(r))
		case 3:
			// Whatever can't be tied once more, isn't.
			w.g.Tie(api.Entry{At: at, Name: name, Ino: some(r, w.ids())})
		default:
			w.dir(at, name)
		}
	}
	for range r.IntN(8) {
		w.move(r, names)
	}
	w.wantFine()
	return w
}

// move lets something have another entry, if it can be there.
func (w *world) move(r *rand.Rand, names []string) {
	w.t.Helper()
	l := w.g.Entries()
	if len(l) == 0 {
		return
	}
	e := some(r, l)
	w.untie(e.At, e.Name)
	if w.g.Tie(api.Entry{At: some(r, w.dirs()), Name: some(r, names), Ino: e.Ino}) != 0 {
		w.tie(e.At, e.Name, e.Ino)
	}
}

func TestAnyGraph(t *testing.T) {
	r := rand.New(rand.NewPCG(15, 2))
	told := map[string]int{}
	for range 600 {
		w := drawn(t, r)
		w.wantHomes()
		w.wantFoundByHome()
		ids := w.ids()
		for range 60 {
			p := drawnPath(r, 12)
			if p == "" {
				continue
			}
			q := question{some(r, ids), p, r.IntN(2) == 0}
			a := w.leads(q)
			told[kindOf(a)]++
			w.wantSameBlown(q)
		}
	}
	for _, kind := range []string{"there", "no name", "missing", "error 1", "error 3", "error 6", "error 9", "error 10"} {
		if told[kind] < 100 {
			t.Errorf("%s: told %d times", kind, told[kind])
		}
	}
}

func kindOf(a answer) string {
	switch {
	case a.e != 0:
		return "error " + strconv.Itoa(int(a.e))
	case !a.There:
		return "missing"
	case a.Name == "":
		return "no name"
	}
	return "there"
}

// No call changes the graph, and no call hangs on what was asked before.

func TestNoCallChangesTheGraph(t *testing.T) {
	r := rand.New(rand.NewPCG(15, 3))
	for range 200 {
		w := drawn(t, r)
		asItWas := w.g.Copy()
		inodes, entries := w.g.Inodes(), w.g.Entries()
		for _, at := range append(w.ids(), strangers()...) {
			for range 5 {
				ask(w.g, question{at, drawnPath(r, 8), r.IntN(2) == 0})
			}
			Home(w.g, at)
		}
		if !reflect.DeepEqual(w.g, asItWas) || !slices.Equal(w.g.Inodes(), inodes) || !slices.Equal(w.g.Entries(), entries) {
			t.Fatalf("%+v %+v; was %+v %+v", w.g.Inodes(), w.g.Entries(), inodes, entries)
		}
	}
}

func TestTheSameQuestionHasTheSameAnswer(t *testing.T) {
	r := rand.New(rand.NewPCG(15, 4))
	one, other := drawn(t, r), drawn(t, r)
	for len(one.ids()) < 20 {
		one = drawn(t, r)
	}
	one.link(api.Stamp{}, "loop", "loop")
	ids := append(one.ids(), strangers()...)
	var asked []question
	var first []answer
	for range 2000 {
		q := question{some(r, ids), drawnPath(r, 8), r.IntN(2) == 0}
		asked, first = append(asked, q), append(first, ask(one.g, q))
	}
	for range 5 {
		for _, n := range r.Perm(len(asked)) {
			switch r.IntN(6) {
			case 0:
				ask(one.g, question{api.Stamp{}, "/loop/x", true})
			case 1:
				ask(other.g, asked[n])
			case 2:
				Home(one.g, some(r, ids))
			case 3:
				Split(asked[n].path)
			}
			if got := ask(one.g, asked[n]); got != first[n] {
				t.Fatalf("%+v: %+v; at first %+v", asked[n], got, first[n])
			}
			if got := ask(one.g.Copy(), asked[n]); got != first[n] {
				t.Fatalf("%+v in a copy: %+v; at first %+v", asked[n], got, first[n])
			}
		}
	}
}

// What was told stays, and what is turned in the graph is told behind that.
func TestWhatIsTurnedIsTold(t *testing.T) {
	w, m := laid(t)
	before := ask(w.g, question{m["/"], "l/f", true})
	home, _ := Home(w.g, m["/d/e"])
	w.g.Set(m["/l"], 0, "/e")
	w.want(m["/"], "l/f", missing(m["/e"], "f"))
	w.untie(m["/"], "d")
	w.tie(m["/e"], "d", m["/d"])
	w.want(m["/"], "l/d/f", named(m["/d"], "f", m["/d/f"]))
	wantHome(t, w.g, m["/d/e"], "/e/d/e")
	if before != (answer{named(m["/d"], "f", m["/d/f"]), 0}) || home != "/d/e" {
		t.Fatal(before, home)
	}
}

// P1: whatever comes, each call ends, and none panics.

func FuzzSplit(f *testing.F) {
	for p := range badPaths() {
		f.Add(p)
	}
	f.Add("/a/./b/../12345678//")
	f.Fuzz(func(t *testing.T, p string) {
		parts, e := plainSplit(p)
		wantSplit(t, p, e, parts...)
	})
}

func FuzzFind(f *testing.F) {
	f.Add(uint64(1), "/a/b", "a", int64(0), 0, true)
	f.Add(uint64(2), "z/../a", "z", int64(0), 0, false)
	f.Add(uint64(3), "12345678/z", "../z", int64(8), 1, true)
	f.Add(uint64(4), "a/b/dd/..", "\x00", int64(-1), -1, true)
	f.Fuzz(func(t *testing.T, seed uint64, p, target string, time int64, rep int, follow bool) {
		w := drawn(t, rand.New(rand.NewPCG(seed, 15)))
		z := w.link(api.Stamp{}, "z", target)
		for _, at := range append(w.ids(), api.Stamp{Time: time, Rep: rep}) {
			w.leads(question{at, p, follow})
			w.leads(question{at, "/z", follow})
		}
		w.leads(question{z, p, follow})
		w.wantHomes()
	})
}
