package pack

import (
	"math"
	"strings"
	"testing"

	"thimble/api"
)

const full = "\xff\xff\xff\xff\xff\xff\xff\xff\xff" // nine bytes of ones: 63 bits

// nums are numbers and their bytes, as P1.1 says them.
var nums = []struct {
	n    uint64
	want string
}{
	{0, "\x00"},
	{1, "\x01"},
	{47, "/"},
	{127, "\x7f"},
	{128, "\x80\x01"},
	{129, "\x81\x01"},
	{255, "\xff\x01"},
	{256, "\x80\x02"},
	{300, "\xac\x02"},
	{16383, "\xff\x7f"},
	{16384, "\x80\x80\x01"},
	{1<<21 - 1, "\xff\xff\x7f"},
	{1 << 21, "\x80\x80\x80\x01"},
	{1 << 30, "\x80\x80\x80\x80\x04"},
	{1<<63 - 1, "\xff\xff\xff\xff\xff\xff\xff\xff\x7f"},
	{1 << 63, "\x80\x80\x80\x80\x80\x80\x80\x80\x80\x01"},
	{math.MaxUint64, full + "\x01"},
}

// ints are numbers with a sign and their bytes, as P1.1 says them.
var ints = []struct {
	n    int64
	want string
}{
	{0, "\x00"},
	{-1, "\x01"},
	{1, "\x02"},
	{-2, "\x03"},
	{2, "\x04"},
	{63, "\x7e"},
	{-64, "\x7f"},
	{64, "\x80\x01"},
	{-65, "\x81\x01"},
	{150, "\xac\x02"},
	{1 << 30, "\x80\x80\x80\x80\x08"},
	{math.MaxInt64, "\xfe" + full[1:] + "\x01"},
	{math.MinInt64, full + "\x01"},
	{math.MinInt64 + 1, "\xfd" + full[1:] + "\x01"},
}

// texts are texts of lengths on both sides of where the length needs one byte more.
var texts = []string{
	"",
	"a",
	"\x00",
	"\x80",
	"\x03abc",
	"gr\xc3\xbc\xc3\x9fe",
	strings.Repeat("x", 127),
	strings.Repeat("x", 128),
	strings.Repeat("\xff", 300),
	strings.Repeat("y", 16383),
	strings.Repeat("y", 16384),
}

// tails are what may stand behind what was packed.
var tails = []string{"", "\x00", "\x01", "\x7f", "\x80", "\xff", "ab", full + "\x02", strings.Repeat("z", 200)}

// notNums are strings that begin with no number.
var notNums = []struct {
	why, s string
}{
	{"empty", ""},
	{"ends too early", "\x80"},
	{"ends too early", "\xff"},
	{"ends too early", "\xac\x82"},
	{"nine bytes, and ends too early", full},
	{"ten bytes, and ends too early", full + "\x81"},
	{"0 in two bytes", "\x80\x00"},
	{"0 in three bytes", "\x80\x80\x00"},
	{"127 in two bytes", "\xff\x00"},
	{"300 in three bytes", "\xac\x82\x00"},
	{"63 bits in ten bytes", full + "\x00"},
	{"0 in ten bytes", strings.Repeat("\x80", 9) + "\x00"},
	{"2^64", strings.Repeat("\x80", 9) + "\x02"},
	{"65 bits", full + "\x03"},
	{"a bit above the 64, and 2^63", strings.Repeat("\x80", 9) + "\x03"},
	{"70 bits", full + "\x7f"},
	{"eleven bytes", full + "\x81\x00"},
	{"eleven bytes", full + "\x81\x01"},
	{"eleven bytes", full + "\xff\x01"},
	{"eleven bytes, nothing but flags in the first ones", strings.Repeat("\x80", 10) + "\x01"},
	{"no end", strings.Repeat("\xff", 1000)},
}

// spread are numbers of all lengths: each power of two, what is next to it, and some between.
func spread() []uint64 {
	l := []uint64{0}
	mixed := uint64(0x9E3779B97F4A7C15)
	for i := range 64 {
		p := uint64(1) << i
		mixed = mixed*6364136223846793005 + 1442695040888963407
		l = append(l, p-1, p, p+1, mixed>>i)
	}
	return append(l, math.MaxUint64)
}

func wantNum(t *testing.T, s string, n uint64, rest string, e api.Errno) {
	t.Helper()
	gotN, gotRest, gotE := TakeNum(s)
	if gotN != n || gotRest != rest || gotE != e {
		t.Errorf("TakeNum(%q): %d, %q, %d; want %d, %q, %d", s, gotN, gotRest, gotE, n, rest, e)
	}
}

func wantInt(t *testing.T, s string, n int64, rest string, e api.Errno) {
	t.Helper()
	gotN, gotRest, gotE := TakeInt(s)
	if gotN != n || gotRest != rest || gotE != e {
		t.Errorf("TakeInt(%q): %d, %q, %d; want %d, %q, %d", s, gotN, gotRest, gotE, n, rest, e)
	}
}

func wantText(t *testing.T, s string, most int, text, rest string, e api.Errno) {
	t.Helper()
	gotText, gotRest, gotE := TakeText(s, most)
	if gotText != text || gotRest != rest || gotE != e {
		t.Errorf("TakeText(%q, %d): %q, %q, %d; want %q, %q, %d", s, most, gotText, gotRest, gotE, text, rest, e)
	}
}

// P1.1: the bytes of numbers, of numbers with a sign, and of texts.

func TestNumHasTheBytes(t *testing.T) {
	for _, x := range nums {
		if s := Num(x.n); s != x.want {
			t.Errorf("Num(%d): %q; want %q", x.n, s, x.want)
		}
	}
}

func TestNumIsInSevensOfBits(t *testing.T) {
	for _, n := range spread() {
		s := Num(n)
		left := n
		for i := range len(s) {
			more := byte(128)
			if i == len(s)-1 {
				more = 0
			}
			if want := byte(left&127) | more; s[i] != want {
				t.Errorf("Num(%d): byte %d is %d; want %d", n, i, s[i], want)
			}
			left >>= 7
		}
		if left != 0 {
			t.Errorf("Num(%d): %q lacks %d", n, s, left)
		}
		if len(s) > 1 && s[len(s)-1] == 0 {
			t.Errorf("Num(%d): %q has more bytes than it needs", n, s)
		}
	}
}

func TestIntHasTheBytes(t *testing.T) {
	for _, x := range ints {
		if s := Int(x.n); s != x.want {
			t.Errorf("Int(%d): %q; want %q", x.n, s, x.want)
		}
	}
}

func TestIntIsNumOfTheDouble(t *testing.T) {
	for _, m := range spread() {
		n := int64(m)
		want := Num(2 * uint64(n))
		if n < 0 {
			want = Num(uint64(-2*n) - 1)
		}
		if s := Int(n); s != want {
			t.Errorf("Int(%d): %q; want %q", n, s, want)
		}
	}
}

func TestTextHasItsLengthAhead(t *testing.T) {
	for _, x := range texts {
		if s := Text(x); s != Num(uint64(len(x)))+x {
			t.Errorf("Text of %d bytes: %q", len(x), s)
		}
	}
	if s := Text(""); s != "\x00" {
		t.Errorf("Text of nothing: %q", s)
	}
	if s := Text("abc"); s != "\x03abc" {
		t.Errorf("Text(abc): %q", s)
	}
	if s := Text(strings.Repeat("x", 128)); s != "\x80\x01"+strings.Repeat("x", 128) {
		t.Errorf("Text of 128 bytes: %q", s)
	}
}

// P1.2: what is taken, and what isn't.

func TestTakeNum(t *testing.T) {
	for _, x := range nums {
		for _, tail := range tails {
			wantNum(t, x.want+tail, x.n, tail, api.OK)
		}
	}
	for _, x := range notNums {
		wantNum(t, x.s, 0, "", api.ErrForm)
	}
}

func TestTakeInt(t *testing.T) {
	for _, x := range ints {
		for _, tail := range tails {
			wantInt(t, x.want+tail, x.n, tail, api.OK)
		}
	}
	for _, x := range notNums {
		wantInt(t, x.s, 0, "", api.ErrForm)
	}
}

func TestTakeText(t *testing.T) {
	for _, x := range texts {
		for _, tail := range tails {
			for _, most := range []int{len(x), len(x) + 1, math.MaxInt} {
				wantText(t, Text(x)+tail, most, x, tail, api.OK)
			}
		}
	}
}

func TestTakeTextOfNoMoreThanMost(t *testing.T) {
	for _, x := range texts {
		for _, most := range []int{len(x) - 1, -1, math.MinInt} {
			wantText(t, Text(x)+"ab", most, "", "", api.ErrForm)
		}
	}
	wantText(t, "\x00", 0, "", "", api.OK)
	wantText(t, "\x01a", 0, "", "", api.ErrForm)
}

func TestTakeTextOfNoMoreThanThereIs(t *testing.T) {
	for _, s := range []string{"\x01", "\x04abc", "\x7f", "\x80\x01" + strings.Repeat("x", 127), Num(math.MaxInt64), Num(1 << 63), Num(math.MaxUint64) + "a"} {
		wantText(t, s, math.MaxInt, "", "", api.ErrForm)
	}
}

func TestTakeTextNeedsALength(t *testing.T) {
	for _, x := range notNums {
		wantText(t, x.s, math.MaxInt, "", "", api.ErrForm)
	}
	wantText(t, "\x83\x00abc", 9, "", "", api.ErrForm)
	wantText(t, full+"\x02abc", math.MaxInt, "", "", api.ErrForm)
}

// P1.3: what was packed is taken; what is taken has the very bytes; none is the begin of another one.

func TestWhatWasPackedIsTaken(t *testing.T) {
	for _, n := range spread() {
		for _, tail := range tails {
			wantNum(t, Num(n)+tail, n, tail, api.OK)
			wantInt(t, Int(int64(n))+tail, int64(n), tail, api.OK)
		}
	}
}

func TestWhatWasPackedInTurnIsTakenInTurn(t *testing.T) {
	all := ""
	for _, n := range spread() {
		all += Num(n) + Int(int64(n)) + Text(Num(n))
	}
	for _, n := range spread() {
		a, behindNum, e1 := TakeNum(all)
		b, behindInt, e2 := TakeInt(behindNum)
		c, behindText, e3 := TakeText(behindInt, 10)
		if a != n || b != int64(n) || c != Num(n) || e1 != api.OK || e2 != api.OK || e3 != api.OK {
			t.Fatalf("%d: %d %d %q, %d %d %d", n, a, b, c, e1, e2, e3)
		}
		all = behindText
	}
	if all != "" {
		t.Errorf("left: %q", all)
	}
}

// veryBytes fails if what is taken from s hasn't the bytes that were there, or if an error tells more than itself.
func veryBytes(t *testing.T, s string) {
	n, rest, e := TakeNum(s)
	if e == api.OK && Num(n)+rest != s || e != api.OK && (e != api.ErrForm || n != 0 || rest != "") {
		t.Fatalf("TakeNum(%q): %d, %q, %d", s, n, rest, e)
	}
	i, rest, e := TakeInt(s)
	if e == api.OK && Int(i)+rest != s || e != api.OK && (e != api.ErrForm || i != 0 || rest != "") {
		t.Fatalf("TakeInt(%q): %d, %q, %d", s, i, rest, e)
	}
	for _, most := range []int{math.MinInt, -1, 0, 1, 2, 127, 128, math.MaxInt} {
		x, rest, e := TakeText(s, most)
		if e == api.OK && (Text(x)+rest != s || len(x) > most) || e != api.OK && (e != api.ErrForm || x != "" || rest != "") {
			t.Fatalf("TakeText(%q, %d): %q, %q, %d", s, most, x, rest, e)
		}
	}
}

func TestWhatIsTakenHasTheVeryBytes(t *testing.T) {
	veryBytes(t, "")
	for i := range 256 {
		veryBytes(t, string([]byte{byte(i)}))
		for j := range 256 {
			veryBytes(t, string([]byte{byte(i), byte(j)}))
			veryBytes(t, string([]byte{byte(i), byte(j), 0}))
			veryBytes(t, string([]byte{byte(i), 128, byte(j)}))
			veryBytes(t, strings.Repeat("\x80", 8)+string([]byte{byte(i), byte(j)}))
			veryBytes(t, full+string([]byte{byte(i), byte(j)}))
		}
	}
	for _, x := range notNums {
		for _, tail := range tails {
			veryBytes(t, x.s+tail)
		}
	}
}

func TestWhatIsCutOffIsNotTaken(t *testing.T) {
	for _, n := range spread() {
		for _, s := range []string{Num(n), Int(int64(n))} {
			for i := range len(s) {
				wantNum(t, s[:i], 0, "", api.ErrForm)
				wantInt(t, s[:i], 0, "", api.ErrForm)
			}
		}
	}
	for _, x := range texts {
		s := Text(x)
		for i := range len(s) {
			wantText(t, s[:i], math.MaxInt, "", "", api.ErrForm)
		}
	}
}

func TestNoneIsTheBeginOfAnother(t *testing.T) {
	none := func(kind string, l []string) {
		for i, a := range l {
			for j, b := range l {
				if i != j && strings.HasPrefix(b, a) {
					t.Errorf("%s: %q is the begin of %q", kind, a, b)
				}
			}
		}
	}
	seen := map[uint64]bool{}
	var asNums, asInts, asTexts []string
	for _, n := range spread() {
		if !seen[n] {
			seen[n] = true
			asNums = append(asNums, Num(n))
			asInts = append(asInts, Int(int64(n)))
		}
	}
	for _, x := range texts {
		asTexts = append(asTexts, Text(x))
	}
	none("Num", asNums)
	none("Int", asInts)
	none("Text", append(asTexts, Text("ab"), Text("abc"), Text("\x01a")))
}

// P1: whatever comes, each call ends, and none panics.

func FuzzTake(f *testing.F) {
	for _, x := range nums {
		f.Add(x.want + "ab")
	}
	for _, x := range notNums {
		f.Add(x.s)
	}
	for _, x := range texts {
		f.Add(Text(x) + "ab")
	}
	f.Fuzz(func(t *testing.T, s string) {
		veryBytes(t, s)
	})
}
