package op

import (
	"math"
	"slices"
	"strings"
	"testing"

	"thimble/api"
	"thimble/pack"
	"thimble/stamp"
)

const top = 1 << 30 // the last time that may be

// tails are what may stand behind an operation's bytes.
var tails = []string{"", "\x00", "\x01", "\x02\x02", "\x7f", "\x80", "\xff", "ab", strings.Repeat("\x00", 13), strings.Repeat("\xff", 20)}

// kinds are all kinds, and the fields that the chapter gives to each.
var kinds = []struct {
	kind   int
	fields []string
	makes  int
}{
	{1, []string{"At", "Name"}, 1},
	{2, []string{"At", "Name"}, 2},
	{3, []string{"At", "Name", "Data"}, 3},
	{4, []string{"At", "Ino", "Name"}, 0},
	{5, []string{"At", "Ino", "Name"}, 0},
	{6, []string{"At", "Ino", "Name"}, 0},
	{7, []string{"At", "Ino", "To", "Name", "New"}, 0},
	{8, []string{"Ino", "Off", "Data"}, 0},
	{9, []string{"Ino", "Off"}, 0},
	{10, []string{"Ino", "Off"}, 0},
}

// noKinds are numbers of no kind, next to the edges and far off.
var noKinds = []int{0, 11, 12, 13, 64, 256, 257, -1, -2, -10, math.MinInt32, math.MaxInt32, 1 << 32, 1<<32 + 1, 1<<32 + 10, math.MinInt, math.MaxInt}

// all are the names of the fields that only some kinds have.
var all = []string{"At", "Ino", "To", "Name", "New", "Off", "Data"}

var (
	goodStamps = []api.Stamp{{}, {Time: 1}, {Time: 1, Rep: 7}, {Time: 5, Rep: 2}, {Time: 63, Rep: 1}, {Time: 64}, {Time: 8192, Rep: 3}, {Time: top - 1, Rep: 7}, {Time: top}, {Time: top, Rep: 7}}
	badStamps  = []api.Stamp{{Rep: 1}, {Rep: 7}, {Rep: -1}, {Rep: 8}, {Time: 1, Rep: -1}, {Time: 1, Rep: 8}, {Time: top, Rep: 8}, {Time: top + 1}, {Time: top + 1, Rep: 7}, {Time: -1}, {Time: -1, Rep: 7}, {Time: math.MinInt64}, {Time: math.MaxInt64, Rep: 7}, {Time: 5, Rep: math.MinInt}, {Time: 5, Rep: math.MaxInt}}
	goodNames  = []string{"a", "Z", "ab", "12345678", "...", "....", "........", ".a", "a.", "..a", "a..", ". ", " ", "\x01", "\x2e\x2e\x2e", "\x30", "\xff", "\xff\xfe\x80\xc0", "\x80", "ä", "ääää", "\u2215", "\\", "a b\nc\t.", "\x7f\x80\xff\x01"}
	badNames   = []string{"", ".", "..", "/", "\x00", "a/", "/a", "a/b", "a\x00", "\x00a", "a\x00b", "./", "/.", "../", "..\x00", "//", "\x00\x00", "123456789", ".........", "äääää", "1234567/", "1234567\x00", "/2345678", "\x002345678", "12345678/", "12345678\x00", strings.Repeat("a", 16), strings.Repeat("a", 127), strings.Repeat("a", 128), strings.Repeat("a", 300)}
)

// base is an operation of a kind that may be, none of whose fields is zero.
func base(kind int) api.Op {
	o := api.Op{Stamp: api.Stamp{Time: 9, Rep: 3}, Kind: kind}
	for _, k := range kinds {
		for _, f := range k.fields {
			if k.kind == kind {
				o = with(o, f, map[string]any{"At": api.Stamp{Time: 2, Rep: 1}, "Ino": api.Stamp{Time: 300, Rep: 5}, "To": api.Stamp{Time: 7}, "Name": "one", "New": "two", "Off": 3, "Data": "dat"}[f])
			}
		}
	}
	return o
}

// with is an operation of which one field holds another thing.
func with(o api.Op, field string, held any) api.Op {
	switch field {
	case "Stamp":
		o.Stamp = held.(api.Stamp)
	case "At":
		o.At = held.(api.Stamp)
	case "Ino":
		o.Ino = held.(api.Stamp)
	case "To":
		o.To = held.(api.Stamp)
	case "Name":
		o.Name = held.(string)
	case "New":
		o.New = held.(string)
	case "Off":
		o.Off = held.(int)
	case "Data":
		o.Data = held.(string)
	}
	return o
}

// anys are things of one type as things of any.
func anys[T any](l []T) []any {
	var a []any
	for _, x := range l {
		a = append(a, x)
	}
	return a
}

// long are texts of so many bytes each.
func long(lengths ...int) []any {
	var l []any
	for _, n := range lengths {
		l = append(l, strings.Repeat("x", n))
	}
	return l
}

// held are things that a field of a kind may hold, the others staying as in base, and things that it may not.
func held(kind int, field string) (good, bad []any) {
	far := []any{-1, -2, -64, math.MinInt32, math.MinInt, math.MinInt + 1, math.MaxInt32, 1 << 32, 1<<32 + 3, math.MaxInt - 3, math.MaxInt - 1, math.MaxInt}
	switch field {
	case "At", "Ino", "To":
		return anys(goodStamps), anys(badStamps)
	case "Name", "New":
		return anys(goodNames), anys(badNames)
	case "Off":
		switch kind {
		case api.Write: // of 3 bytes
			return []any{0, 1, 2, 60, 61}, append(far, 62, 63, 64, 65, 66, 4095)
		case api.Trunc:
			return []any{0, 1, 2, 31, 63, 64}, append(far, 65, 66, 128, 4095)
		}
		return []any{0, 1, 64, 65, 0o777, 2048, 4094, 4095}, append(far, 4096, 4097, 8191)
	}
	if kind == api.Symlink {
		return append(long(1, 2, 8, 9, 31, 32), "/", "..", "/a/b", "a//", "\xff", "\x01", "ä"), append(long(0, 33, 34, 64, 65, 300), "\x00", "a\x00", "\x00a", "a\x00b", strings.Repeat("\x00", 32), strings.Repeat("x", 31)+"\x00", "\x00"+strings.Repeat("x", 31), strings.Repeat("x", 32)+"\x00")
	}
	// Of Write at 3.
	return append(long(1, 2, 9, 32, 33, 60, 61), "\x00", "\x00\x00", "a\x00b", "/", "\xff\x80", strings.Repeat("\x00", 61)), append(long(0, 62, 63, 64, 65, 66, 128, 300), strings.Repeat("\x00", 62))
}

// good are operations that may be: each kind, with each field at its edges.
func good() []api.Op {
	var l []api.Op
	for _, k := range kinds {
		l = append(l, base(k.kind))
		for _, s := range goodStamps[1:] {
			l = append(l, with(base(k.kind), "Stamp", s))
		}
		for _, f := range k.fields {
			may, _ := held(k.kind, f)
			for _, x := range may {
				l = append(l, with(base(k.kind), f, x))
			}
		}
	}
	return append(l,
		api.Op{Stamp: api.Stamp{Time: 1}, Kind: api.Write, Data: strings.Repeat("x", 64)},
		api.Op{Stamp: api.Stamp{Time: 1}, Kind: api.Write, Off: 63, Data: "x"},
		api.Op{Stamp: api.Stamp{Time: top, Rep: 7}, Kind: api.Rename, At: api.Stamp{Time: top, Rep: 7}, Ino: api.Stamp{Time: top, Rep: 7}, To: api.Stamp{Time: top, Rep: 7}, Name: "12345678", New: "12345678"},
		api.Op{Stamp: api.Stamp{Time: 1}, Kind: api.Trunc},
		api.Op{Stamp: api.Stamp{Time: 1}, Kind: api.Setattr},
	)
}

// bad are operations that may not be, for one field alone.
func bad() []api.Op {
	var l []api.Op
	for _, k := range kinds {
		for _, s := range append(badStamps, api.Stamp{}) {
			l = append(l, with(base(k.kind), "Stamp", s))
		}
		for _, f := range k.fields {
			_, not := held(k.kind, f)
			for _, x := range not {
				l = append(l, with(base(k.kind), f, x))
			}
		}
		for _, kind := range noKinds {
			o := base(k.kind)
			o.Kind = kind
			l = append(l, o)
		}
	}
	return append(l, others()...)
}

// others are operations that hold something in a field that their kind hasn't, which elsewhere could be.
func others() []api.Op {
	var l []api.Op
	for _, k := range kinds {
		for _, f := range all {
			if slices.Contains(k.fields, f) {
				continue
			}
			for _, x := range map[string][]any{
				"At":   {api.Stamp{Time: 1}, api.Stamp{Time: 2, Rep: 1}, api.Stamp{Rep: 1}, api.Stamp{Time: -1}},
				"Ino":  {api.Stamp{Time: 1}, api.Stamp{Time: 300, Rep: 5}, api.Stamp{Rep: 1}, api.Stamp{Time: -1}},
				"To":   {api.Stamp{Time: 1}, api.Stamp{Time: 7}, api.Stamp{Rep: 1}, api.Stamp{Time: -1}},
				"Name": {"a", "one", ".", "\x00", "123456789"},
				"New":  {"a", "two", "..", "/", "123456789"},
				"Off":  {1, 3, 64, -1, math.MinInt, math.MaxInt, 1 << 32},
				"Data": {"x", "dat", "\x00", strings.Repeat("x", 65)},
			}[f] {
				l = append(l, with(base(k.kind), f, x))
			}
		}
	}
	return l
}

// put is an operation as bytes, as P5.2's words say it.
func put(o api.Op) string {
	return strings.Join([]string{
		pack.Int(int64(o.Kind)),
		stamp.Put(o.Stamp), stamp.Put(o.At), stamp.Put(o.Ino), stamp.Put(o.To),
		pack.Text(o.Name), pack.Text(o.New),
		pack.Int(int64(o.Off)), pack.Text(o.Data),
	}, "")
}

// isName tells whether a text is a name, byte by byte, as the chapter's words say it.
func isName(s string) bool {
	for i := range len(s) {
		if s[i] == 0 || s[i] == 47 {
			return false
		}
	}
	return len(s) >= 1 && len(s) <= 8 && s != "." && s != ".."
}

// may tells whether an operation may be, field by field, as P5.1's words say it.
func may(o api.Op) bool {
	if o.Kind < 1 || o.Kind > 10 || !stamp.May(o.Stamp) || o.Stamp == (api.Stamp{}) {
		return false
	}
	has := func(f string) bool { return slices.Contains(kinds[o.Kind-1].fields, f) }
	zero := api.Stamp{}
	for _, x := range []struct {
		field     string
		may, zero bool
	}{
		{"At", stamp.May(o.At), o.At == zero},
		{"Ino", stamp.May(o.Ino), o.Ino == zero},
		{"To", stamp.May(o.To), o.To == zero},
		{"Name", isName(o.Name), o.Name == ""},
		{"New", isName(o.New), o.New == ""},
		{"Off", mayOff(o), o.Off == 0},
		{"Data", mayData(o), o.Data == ""},
	} {
		if has(x.field) && !x.may || !has(x.field) && !x.zero {
			return false
		}
	}
	return true
}

func mayOff(o api.Op) bool {
	most := map[int]int{api.Write: 64, api.Trunc: 64, api.Setattr: 4095}[o.Kind]
	return o.Off >= 0 && o.Off <= most
}

func mayData(o api.Op) bool {
	if o.Kind == api.Symlink {
		return len(o.Data) >= 1 && len(o.Data) <= 32 && !strings.Contains(o.Data, "\x00")
	}
	// An offset far off is told by itself.
	return len(o.Data) >= 1 && (!mayOff(o) || o.Off+len(o.Data) <= 64)
}

// P5.1: what a name is, and which operations may be.

func TestName(t *testing.T) {
	for _, s := range goodNames {
		if !Name(s) {
			t.Errorf("Name(%q): false", s)
		}
	}
	for _, s := range badNames {
		if Name(s) {
			t.Errorf("Name(%q): true", s)
		}
	}
}

func TestNameOfEachLength(t *testing.T) {
	for n := range 300 {
		if got, want := Name(strings.Repeat("a", n)), 1 <= n && n <= 8; got != want {
			t.Errorf("Name of %d bytes: %t", n, got)
		}
		if got, want := Name(strings.Repeat(".", n)), 3 <= n && n <= 8; got != want {
			t.Errorf("Name of %d points: %t", n, got)
		}
	}
}

func TestNameOfEachByteAtEachPlace(t *testing.T) {
	for n := 1; n <= 9; n++ {
		for place := range n {
			for b := range 256 {
				s := strings.Repeat("a", place) + string([]byte{byte(b)}) + strings.Repeat("a", n-place-1)
				want := n <= 8 && b != 0 && b != 47 && s != "."
				if got := Name(s); got != want {
					t.Errorf("Name(%q): %t", s, got)
				}
			}
		}
	}
}

func TestNameOfAnyTwoBytes(t *testing.T) {
	for a := range 256 {
		for b := range 256 {
			s := string([]byte{byte(a), byte(b)})
			want := a != 0 && a != 47 && b != 0 && b != 47 && s != ".."
			if got := Name(s); got != want {
				t.Fatalf("Name(%q): %t", s, got)
			}
		}
	}
}

func TestMay(t *testing.T) {
	for _, o := range good() {
		if !May(o) {
			t.Errorf("May(%+v): false", o)
		}
	}
	for _, o := range bad() {
		if May(o) {
			t.Errorf("May(%+v): true", o)
		}
	}
}

func TestMayOfTheExample(t *testing.T) {
	o := api.Op{Stamp: api.Stamp{Time: 1}, Kind: api.Mkdir, Name: "a/b"}
	if May(o) {
		t.Errorf("Mkdir of a name with a slash may be")
	}
	o.Name = "ab"
	if !May(o) {
		t.Errorf("Mkdir of ab in the root may not be")
	}
}

func TestMayOfNoKindWhateverItHolds(t *testing.T) {
	for _, kind := range noKinds {
		for _, o := range good() {
			o.Kind = kind
			if May(o) {
				t.Errorf("May(%+v): true", o)
			}
		}
		if May(api.Op{Kind: kind}) || May(api.Op{Stamp: api.Stamp{Time: 1}, Kind: kind}) {
			t.Errorf("the kind %d alone may be", kind)
		}
	}
}

func TestMayOfEachKindWithoutFields(t *testing.T) {
	for _, k := range kinds {
		// Zero stamps and offsets may be; texts of no bytes are no names, and no data.
		want := k.kind == api.Trunc || k.kind == api.Setattr
		if got := May(api.Op{Stamp: api.Stamp{Time: 1}, Kind: k.kind}); got != want {
			t.Errorf("the kind %d without fields: %t", k.kind, got)
		}
		if May(api.Op{Kind: k.kind}) {
			t.Errorf("the kind %d without a stamp may be", k.kind)
		}
	}
}

func TestMayOfEachKindThatLacksAField(t *testing.T) {
	zero := map[string]any{"At": api.Stamp{}, "Ino": api.Stamp{}, "To": api.Stamp{}, "Name": "", "New": "", "Off": 0, "Data": ""}
	for _, k := range kinds {
		for _, f := range k.fields {
			o := with(base(k.kind), f, zero[f])
			want := f != "Name" && f != "New" && f != "Data"
			if got := May(o); got != want {
				t.Errorf("%+v without %s: %t", o, f, got)
			}
		}
	}
}

func TestMayOfOtherFieldsTurnedFromZero(t *testing.T) {
	turned := map[[2]any]int{}
	for _, o := range others() {
		if May(o) {
			t.Errorf("May(%+v): true", o)
		}
	}
	// Each kind with each field of all kinds together, of which it hasn't all.
	for _, k := range kinds {
		for _, f := range all {
			o := with(base(k.kind), f, map[string]any{"At": api.Stamp{Time: 1}, "Ino": api.Stamp{Time: 1}, "To": api.Stamp{Time: 1}, "Name": "a", "New": "a", "Off": 1, "Data": "x"}[f])
			if got, want := May(o), slices.Contains(k.fields, f); got != want {
				t.Errorf("the kind %d with %s: %t", k.kind, f, got)
			}
			turned[[2]any{k.kind, f}]++
		}
	}
	if len(turned) != 70 {
		t.Errorf("%d of kinds and fields", len(turned))
	}
}

func TestMayOfWriteAtEachOffset(t *testing.T) {
	for n := range 70 {
		for off := -3; off < 70; off++ {
			o := api.Op{Stamp: api.Stamp{Time: 1}, Kind: api.Write, Off: off, Data: strings.Repeat("\x00", n)}
			want := off >= 0 && n >= 1 && off+n <= 64
			if got := May(o); got != want {
				t.Errorf("Write of %d bytes at %d: %t", n, off, got)
			}
		}
		for _, off := range []int{math.MinInt, math.MinInt + 1, -top, top, math.MaxInt - 64, math.MaxInt - 1, math.MaxInt} {
			if May(api.Op{Stamp: api.Stamp{Time: 1}, Kind: api.Write, Off: off, Data: strings.Repeat("x", n)}) {
				t.Errorf("Write of %d bytes at %d may be", n, off)
			}
		}
	}
}

func TestMayOfTruncAndSetattrAtEachOffset(t *testing.T) {
	for off := -5; off < 5000; off++ {
		for kind, most := range map[int]int{api.Trunc: 64, api.Setattr: 4095} {
			o := api.Op{Stamp: api.Stamp{Time: 1}, Kind: kind, Off: off}
			if got, want := May(o), 0 <= off && off <= most; got != want {
				t.Errorf("the kind %d with %d: %t", kind, off, got)
			}
		}
	}
}

func TestMayOfSymlinkOfEachLengthAndByte(t *testing.T) {
	for n := range 70 {
		o := with(base(api.Symlink), "Data", strings.Repeat("x", n))
		if got, want := May(o), 1 <= n && n <= 32; got != want {
			t.Errorf("Symlink to %d bytes: %t", n, got)
		}
		for place := range n {
			if May(with(o, "Data", o.Data[:place]+"\x00"+o.Data[place+1:])) {
				t.Errorf("Symlink to %d bytes with a byte 0 at %d may be", n, place)
			}
		}
	}
	for b := range 256 {
		if got, want := May(with(base(api.Symlink), "Data", string([]byte{byte(b)}))), b != 0; got != want {
			t.Errorf("Symlink to the byte %d: %t", b, got)
		}
	}
}

func TestMayOfNamesAsName(t *testing.T) {
	for _, s := range append(goodNames, badNames...) {
		for _, k := range kinds {
			for _, f := range []string{"Name", "New"} {
				want := isName(s) && slices.Contains(k.fields, f) || s == "" && !slices.Contains(k.fields, f)
				if got := May(with(base(k.kind), f, s)); got != want {
					t.Errorf("the kind %d with %s %q: %t", k.kind, f, s, got)
				}
			}
		}
	}
}

func TestMayIsWhatTheWordsSay(t *testing.T) {
	for _, o := range append(good(), bad()...) {
		// Also as another kind, with the fields of this one.
		for _, kind := range append(noKinds, 1, 2, 3, 4, 5, 6, 7, 8, 9, 10) {
			o.Kind = kind
			if got, want := May(o), may(o); got != want {
				t.Fatalf("May(%+v): %t; want %t", o, got, want)
			}
		}
	}
}

// P5.2: an operation as bytes, and back.

func TestPut(t *testing.T) {
	for _, x := range []struct {
		o    api.Op
		want string
	}{
		{api.Op{}, strings.Repeat("\x00", 13)},
		{api.Op{Stamp: api.Stamp{Time: 5, Rep: 2}, Kind: api.Mkdir, Name: "a"}, "\x02" + "\x0a\x04" + "\x00\x00" + "\x00\x00" + "\x00\x00" + "\x01a" + "\x00" + "\x00" + "\x00"},
		{api.Op{Stamp: api.Stamp{Time: 1}, Kind: api.Rename, At: api.Stamp{Time: 2, Rep: 1}, Ino: api.Stamp{Time: 3, Rep: 2}, To: api.Stamp{Time: 64, Rep: 7}, Name: "one", New: "three"}, "\x0e" + "\x02\x00" + "\x04\x02" + "\x06\x04" + "\x80\x01\x0e" + "\x03one" + "\x05three" + "\x00" + "\x00"},
		{api.Op{Stamp: api.Stamp{Time: top, Rep: 7}, Kind: api.Write, Ino: api.Stamp{Time: 1}, Off: 7, Data: "x\x00y"}, "\x10" + "\x80\x80\x80\x80\x08\x0e" + "\x00\x00" + "\x02\x00" + "\x00\x00" + "\x00" + "\x00" + "\x0e" + "\x03x\x00y"},
		{api.Op{Stamp: api.Stamp{Time: 1}, Kind: api.Setattr, Off: 4095}, "\x14" + "\x02\x00" + "\x00\x00" + "\x00\x00" + "\x00\x00" + "\x00" + "\x00" + "\xfe\x3f" + "\x00"},
		{api.Op{Stamp: api.Stamp{Time: -1, Rep: -1}, Kind: -1, At: api.Stamp{Rep: 1}, Ino: api.Stamp{Rep: 2}, To: api.Stamp{Rep: 3}, Name: "/", New: "..", Off: -2, Data: "d"}, "\x01" + "\x01\x01" + "\x00\x02" + "\x00\x04" + "\x00\x06" + "\x01/" + "\x02.." + "\x03" + "\x01d"},
	} {
		if got := Put(x.o); got != x.want {
			t.Errorf("Put(%+v): %q; want %q", x.o, got, x.want)
		}
	}
}

func TestPutOfAnyFields(t *testing.T) {
	for _, o := range append(good(), bad()...) {
		if got, want := Put(o), put(o); got != want {
			t.Errorf("Put(%+v): %q; want %q", o, got, want)
		}
	}
}

func wantTaken(t *testing.T, b string, want api.Op, rest string, e api.Errno) {
	t.Helper()
	got, gotRest, gotE := Take(b)
	if got != want || gotRest != rest || gotE != e {
		t.Errorf("Take(%q): %+v, %q, %d; want %+v, %q, %d", b, got, gotRest, gotE, want, rest, e)
	}
}

func TestTakeHasTheOperationAndWhatIsBehind(t *testing.T) {
	wantTaken(t, "\x02\x0a\x04\x00\x00\x00\x00\x00\x00\x01a\x00\x00\x00rest", api.Op{Stamp: api.Stamp{Time: 5, Rep: 2}, Kind: api.Mkdir, Name: "a"}, "rest", api.OK)
	for _, o := range good() {
		for _, tail := range tails {
			wantTaken(t, put(o)+tail, o, tail, api.OK)
		}
	}
}

func TestTakeOfWhatMayNotBe(t *testing.T) {
	for _, o := range bad() {
		for _, tail := range tails {
			wantTaken(t, put(o)+tail, api.Op{}, "", api.ErrForm)
		}
	}
}

func TestTakeOfWhatIsCut(t *testing.T) {
	for _, o := range good() {
		b := put(o)
		for i := range len(b) {
			wantTaken(t, b[:i], api.Op{}, "", api.ErrForm)
		}
	}
}

// parts are an operation's bytes, field by field.
func parts(o api.Op) []string {
	return []string{
		pack.Int(int64(o.Kind)),
		pack.Int(o.Stamp.Time), pack.Int(int64(o.Stamp.Rep)),
		pack.Int(o.At.Time), pack.Int(int64(o.At.Rep)),
		pack.Int(o.Ino.Time), pack.Int(int64(o.Ino.Rep)),
		pack.Int(o.To.Time), pack.Int(int64(o.To.Rep)),
		pack.Text(o.Name), pack.Text(o.New),
		pack.Int(int64(o.Off)), pack.Text(o.Data),
	}
}

// longer is a number's bytes with one more, which Num would not have made; and what is behind them.
func longer(part string) string {
	_, rest, _ := pack.TakeNum(part)
	n := len(part) - len(rest)
	return part[:n-1] + string([]byte{part[n-1] + 128, 0}) + rest
}

func TestTakeOfNumbersThatAreNone(t *testing.T) {
	ones := strings.Repeat("\xff", 9)
	for _, k := range kinds {
		l := parts(base(k.kind))
		if strings.Join(l, "") != put(base(k.kind)) {
			t.Fatalf("%q isn't %q", l, put(base(k.kind)))
		}
		for i, part := range l {
			for _, other := range []string{longer(part), ones + "\x01", ones + "\x02", ones + "\x80\x01", ones + ones, "\xfe" + ones[1:] + "\x01", pack.Int(1<<32 + 1), "\x80"} {
				changed := slices.Clone(l)
				changed[i] = other
				wantTaken(t, strings.Join(changed, ""), api.Op{}, "", api.ErrForm)
			}
		}
	}
}

func TestTakeOfTextsTooShortOrTooLong(t *testing.T) {
	const nameAt, newAt, dataAt = 9, 10, 12
	for _, x := range []struct {
		kind, part int
		lengths    []int
	}{
		{api.Mkdir, nameAt, []int{0, 9, 10, 64, 127, 128, 300}},
		{api.Rename, nameAt, []int{0, 9, 10, 64, 127, 128, 300}},
		{api.Rename, newAt, []int{0, 9, 10, 64, 127, 128, 300}},
		{api.Symlink, dataAt, []int{0, 33, 64, 65, 127, 128, 300}},
		{api.Write, dataAt, []int{0, 62, 64, 65, 127, 128, 300}},
	} {
		l := parts(base(x.kind))
		for _, n := range x.lengths {
			l[x.part] = pack.Text(strings.Repeat("x", n))
			wantTaken(t, strings.Join(l, ""), api.Op{}, "", api.ErrForm)
		}
		// Texts of which so many bytes aren't there.
		for _, n := range []uint64{4, 8, 32, 64, 1 << 31, 1 << 63, math.MaxUint64} {
			l[x.part] = pack.Num(n)
			wantTaken(t, strings.Join(l[:x.part+1], ""), api.Op{}, "", api.ErrForm)
		}
	}
}

func TestTakeOfBytesThatAreNoOperation(t *testing.T) {
	for _, b := range []string{
		"", "\x00", "\x01", "\x02", "\x14", "\x80", "\xff", "ab",
		strings.Repeat("\x00", 13), strings.Repeat("\x00", 100), // the zero operation
		strings.Repeat("\x02", 13), strings.Repeat("\xff", 100), strings.Repeat("\x80", 100),
		"\x16\x0a\x04\x00\x00\x00\x00\x00\x00\x01a\x00\x00\x00", // the kind 11
		"\x01\x0a\x04\x00\x00\x00\x00\x00\x00\x01a\x00\x00\x00", // the kind -1
		"\x02\x00\x00\x00\x00\x00\x00\x00\x00\x01a\x00\x00\x00", // the zero stamp
		"\x02\x00\x04\x00\x00\x00\x00\x00\x00\x01a\x00\x00\x00", // a stamp that may not be
		"\x02\x0a\x04\x00\x00\x00\x00\x00\x00\x01/\x00\x00\x00", // no name
		"\x02\x0a\x04\x00\x00\x00\x00\x00\x00\x00\x00\x00\x00",  // none at all
		"\x02\x0a\x04\x00\x00\x00\x00\x00\x00\x01a\x00\x02\x00", // an offset that Mkdir hasn't
	} {
		for _, tail := range tails {
			wantTaken(t, b+tail, api.Op{}, "", api.ErrForm)
		}
	}
}

// P5.3: what an operation makes, and what it uses.

func TestMakes(t *testing.T) {
	for _, k := range kinds {
		for _, o := range []api.Op{base(k.kind), {Kind: k.kind}, {Kind: k.kind, Stamp: api.Stamp{Time: -1}, Name: "/", Off: -1}} {
			if got := Makes(o); got != k.makes {
				t.Errorf("Makes(%+v): %d; want %d", o, got, k.makes)
			}
		}
	}
	for _, kind := range noKinds {
		o := base(api.Mkdir)
		o.Kind = kind
		if got := Makes(o); got != 0 {
			t.Errorf("Makes(%+v): %d", o, got)
		}
	}
	if Makes(base(api.Mkdir)) != api.Dir || Makes(base(api.Create)) != api.File || Makes(base(api.Symlink)) != api.Sym {
		t.Errorf("other kinds of inodes are made")
	}
}

func TestUses(t *testing.T) {
	a, b, c := api.Stamp{Time: 1, Rep: 1}, api.Stamp{Time: 2, Rep: 2}, api.Stamp{Time: 3, Rep: 3}
	for kind, want := range map[int][]api.Stamp{
		api.Mkdir:   {a},
		api.Create:  {a},
		api.Symlink: {a},
		api.Link:    {a, b},
		api.Unlink:  {a, b},
		api.Rmdir:   {a, b},
		api.Rename:  {a, b, c},
		api.Write:   {b},
		api.Trunc:   {b},
		api.Setattr: {b},
	} {
		if got := Uses(api.Op{Kind: kind, At: a, Ino: b, To: c}); !slices.Equal(got, want) {
			t.Errorf("Uses of the kind %d: %v; want %v", kind, got, want)
		}
	}
}

func TestUsesOfAnyStamps(t *testing.T) {
	for _, s := range append(goodStamps, badStamps...) {
		for _, k := range kinds {
			n := 0
			for _, f := range []string{"At", "Ino", "To"} {
				if slices.Contains(k.fields, f) {
					n++
				}
			}
			// Each field tells one, also the root, and also one that was told.
			want := slices.Repeat([]api.Stamp{s}, n)
			if got := Uses(api.Op{Kind: k.kind, At: s, Ino: s, To: s}); !slices.Equal(got, want) {
				t.Errorf("Uses of the kind %d with %v: %v", k.kind, s, got)
			}
		}
	}
	for _, o := range good() {
		var want []api.Stamp
		for _, f := range kinds[o.Kind-1].fields {
			switch f {
			case "At":
				want = append(want, o.At)
			case "Ino":
				want = append(want, o.Ino)
			case "To":
				want = append(want, o.To)
			}
		}
		if got := Uses(o); !slices.Equal(got, want) {
			t.Errorf("Uses(%+v): %v; want %v", o, got, want)
		}
	}
}

func TestUsesOfNoKind(t *testing.T) {
	for _, kind := range noKinds {
		o := base(api.Rename)
		o.Kind = kind
		if got := Uses(o); len(got) != 0 {
			t.Errorf("Uses(%+v): %v", o, got)
		}
	}
}

func TestUsesSharesNothing(t *testing.T) {
	o := base(api.Rename)
	first := Uses(o)
	first[0] = api.Stamp{Time: 99}
	clear(append(first, api.Stamp{}))
	if got := Uses(o); !slices.Equal(got, []api.Stamp{o.At, o.Ino, o.To}) {
		t.Errorf("Uses tells %v, when what it told was changed", got)
	}
}

// P5.4: what may be is taken as it was put, whatever stands behind.

func TestWhatMayBeIsTakenAsItWasPut(t *testing.T) {
	for _, o := range append(good(), bad()...) {
		for _, tail := range append(tails, Put(base(api.Rename)), Put(o), Put(api.Op{})) {
			got, rest, e := Take(Put(o) + tail)
			if May(o) && (got != o || rest != tail || e != api.OK) {
				t.Errorf("Take(Put(%+v) and %q): %+v, %q, %d", o, tail, got, rest, e)
			}
			if !May(o) && (got != api.Op{} || rest != "" || e != api.ErrForm) {
				t.Errorf("Take(Put(%+v) and %q): %+v, %q, %d", o, tail, got, rest, e)
			}
		}
	}
}

func TestOperationsPutInTurnAreTakenInTurn(t *testing.T) {
	var b strings.Builder
	for _, o := range good() {
		b.WriteString(Put(o))
	}
	rest := b.String()
	for _, want := range good() {
		o, more, e := Take(rest)
		if o != want || e != api.OK {
			t.Fatalf("%+v, %d; want %+v", o, e, want)
		}
		rest = more
	}
	if rest != "" {
		t.Errorf("%q is left", rest)
	}
}

func TestUnlikeOperationsHaveUnlikeBytes(t *testing.T) {
	told := map[string]api.Op{}
	for _, o := range append(good(), bad()...) {
		if other, was := told[Put(o)]; was && other != o {
			t.Errorf("%+v and %+v are put alike", o, other)
		}
		told[Put(o)] = o
	}
}

// P1: whatever comes, each call ends, and none panics.

func FuzzTake(f *testing.F) {
	for _, k := range kinds {
		f.Add(Put(base(k.kind)) + "ab")
	}
	for _, o := range bad()[:20] {
		f.Add(Put(o))
	}
	for _, tail := range tails {
		f.Add(tail)
	}
	f.Fuzz(func(t *testing.T, b string) {
		o, rest, e := Take(b)
		if e != api.OK {
			if o != (api.Op{}) || rest != "" || e != api.ErrForm {
				t.Fatalf("Take(%q): %+v, %q, %d", b, o, rest, e)
			}
			return
		}
		if !May(o) || Put(o)+rest != b {
			t.Fatalf("Take(%q): %+v, %q", b, o, rest)
		}
	})
}

func FuzzMay(f *testing.F) {
	for _, k := range kinds {
		o := base(k.kind)
		f.Add(o.Kind, o.Stamp.Time, o.Stamp.Rep, o.At.Time, o.Ino.Time, o.To.Time, o.Name, o.New, o.Off, o.Data)
	}
	f.Add(math.MinInt, int64(math.MaxInt64), math.MinInt, int64(-1), int64(math.MinInt64), int64(top+1), ".", "a/", math.MaxInt, strings.Repeat("\x00", 65))
	f.Fuzz(func(t *testing.T, kind int, time int64, rep int, at, ino, to int64, name, newName string, off int, data string) {
		o := api.Op{
			Stamp: api.Stamp{Time: time, Rep: rep}, Kind: kind,
			At: api.Stamp{Time: at, Rep: int(at & 1)}, Ino: api.Stamp{Time: ino}, To: api.Stamp{Time: to},
			Name: name, New: newName, Off: off, Data: data,
		}
		if Name(name) != isName(name) {
			t.Fatalf("Name(%q): %t", name, Name(name))
		}
		if May(o) != may(o) {
			t.Fatalf("May(%+v): %t", o, May(o))
		}
		Makes(o)
		Uses(o)
		got, rest, e := Take(Put(o) + data)
		if may(o) && (got != o || rest != data || e != api.OK) || !may(o) && (got != api.Op{} || rest != "" || e != api.ErrForm) {
			t.Fatalf("Take(Put(%+v)): %+v, %q, %d", o, got, rest, e)
		}
	})
}
