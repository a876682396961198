package crc

import (
	"hash/crc32"
	"math"
	"strings"
	"testing"
)

// sums are texts and their checksums, as the world knows them.
var sums = []struct {
	s    string
	want uint32
}{
	{"", 0},
	{"123456789", 0xCBF43926},
	{"a", 0xE8B7BE43},
	{"abc", 0x352441C2},
	{"\x00", 0xD202EF8D},
	{"\x00\x00\x00\x00", 0x2144DF1C},
	{"\xff", 0xFF000000},
	{"\xff\xff\xff\xff", 0xFFFFFFFF},
	{"message digest", 0x20159D7F},
	{"The quick brown fox jumps over the lazy dog", 0x414FA339},
	{strings.Repeat("\x00", 32), 0x190A55AD},
	{strings.Repeat("\xff", 32), 0xFF6CAB0B},
}

// starts are sums that there may be ahead: none, all bits, and each bit alone.
func starts() []uint32 {
	l := []uint32{0, math.MaxUint32, math.MaxInt32, 0xCBF43926, 0xEDB88320, 0x01234567}
	for i := range 32 {
		l = append(l, 1<<i)
	}
	return l
}

// mixed is a text of so many bytes, of which no two that are neighbours are alike.
func mixed(n int) string {
	b := make([]byte, n)
	for i := range b {
		b[i] = byte(i*i*7 + i*151 + i/256)
		if i > 0 && b[i] == b[i-1] {
			b[i]++
		}
	}
	return string(b)
}

// texts are ordinary ones, those at the edges, and one with each of the bytes.
func texts() []string {
	l := []string{"", "\x00", "\xff", "\x80", "/", "abc", "123456789", "gr\xc3\xbc\xc3\x9fe", "\x00\x00\x00\x00\x00", "\xff\xff\xff\xff\xff", mixed(7), mixed(64), mixed(300)}
	all := make([]byte, 256)
	for i := range all {
		all[i] = byte(i)
	}
	return append(l, string(all), strings.Repeat("\x00", 100), strings.Repeat("ab", 77))
}

// with is a text of which one byte is another one.
func with(s string, at int, b byte) string {
	return s[:at] + string([]byte{b}) + s[at+1:]
}

// P2.1: the table, a sum and more behind it, and the sum of a text.

// stepped is a step, as the chapter's words say it: the bits one by one.
func stepped(n uint32) uint32 {
	const by = "11101101101110001000001100100000"
	lowest := n & 1
	half := uint32(0)
	for i := range 31 {
		half |= n >> (i + 1) & 1 << i
	}
	if lowest == 0 {
		return half
	}
	turned := uint32(0)
	for i := range 32 {
		bit := half >> (31 - i) & 1
		if by[i] == '1' {
			bit = 1 - bit
		}
		turned = turned*2 + bit
	}
	return turned
}

// slow is a sum and more behind it, without a table.
func slow(c uint32, s string) uint32 {
	c = math.MaxUint32 - c
	for _, b := range []byte(s) {
		c = c&0xFFFFFF00 + (c&0xFF ^ uint32(b))
		for range 8 {
			c = stepped(c)
		}
	}
	return math.MaxUint32 - c
}

func TestTableIsEightStepsOfEach(t *testing.T) {
	table := Table()
	for i, got := range table {
		n := uint32(i)
		for range 8 {
			n = stepped(n)
		}
		if got != n {
			t.Errorf("Table()[%d]: %08x; want %08x", i, got, n)
		}
	}
	for i, want := range map[int]uint32{0: 0, 1: 0x77073096, 2: 0xEE0E612C, 3: 0x990951BA, 128: 0xEDB88320, 255: 0x2D02EF8D} {
		if table[i] != want {
			t.Errorf("Table()[%d]: %08x; want %08x", i, table[i], want)
		}
	}
}

func TestTableIsNobodyElses(t *testing.T) {
	mine := Table()
	for i := range mine {
		mine[i] = 1
	}
	if Table() != [256]uint32(*crc32.IEEETable) {
		t.Errorf("Table() hangs on what was done to an earlier one")
	}
	if Of("123456789") != 0xCBF43926 {
		t.Errorf("Of hangs on what was done to a table")
	}
}

func TestOfHasTheSum(t *testing.T) {
	for _, x := range sums {
		if got := Of(x.s); got != x.want {
			t.Errorf("Of(%q): %08x; want %08x", x.s, got, x.want)
		}
		if got := More(0, x.s); got != x.want {
			t.Errorf("More(0, %q): %08x; want %08x", x.s, got, x.want)
		}
	}
}

func TestMoreIsStepByStep(t *testing.T) {
	for _, c := range starts() {
		for _, s := range texts() {
			if got, want := More(c, s), slow(c, s); got != want {
				t.Errorf("More(%08x, %q): %08x; want %08x", c, s, got, want)
			}
		}
	}
}

func TestMoreOfEachByte(t *testing.T) {
	for _, c := range starts() {
		for b := range 256 {
			s := string([]byte{byte(b)})
			if got, want := More(c, s), slow(c, s); got != want {
				t.Errorf("More(%08x, %q): %08x; want %08x", c, s, got, want)
			}
		}
	}
}

func TestMoreOfNothing(t *testing.T) {
	for _, c := range starts() {
		if got := More(c, ""); got != c {
			t.Errorf("More(%08x, nothing): %08x", c, got)
		}
	}
	if got := Of(""); got != 0 {
		t.Errorf("Of nothing: %08x", got)
	}
}

func TestOfIsMoreOfNone(t *testing.T) {
	for _, s := range texts() {
		if got, want := Of(s), More(0, s); got != want {
			t.Errorf("Of(%q): %08x; want %08x", s, got, want)
		}
	}
}

func TestOfALongText(t *testing.T) {
	s := mixed(1 << 20)
	if got, want := Of(s), crc32.ChecksumIEEE([]byte(s)); got != want {
		t.Errorf("Of %d bytes: %08x; want %08x", len(s), got, want)
	}
}

func TestASumHangsOnNothingElse(t *testing.T) {
	first := []uint32{}
	for _, s := range texts() {
		first = append(first, Of(s))
	}
	for i, s := range texts() {
		if got := Of(s); got != first[i] {
			t.Errorf("Of(%q): %08x, and then %08x", s, first[i], got)
		}
	}
}

// P2.2: the sum of two parts; bytes that are others; bytes that change places.

func TestTheSumOfTwoPartsIsThatOfTheSecondOneMore(t *testing.T) {
	for _, s := range texts() {
		want := Of(s)
		for i := range len(s) + 1 {
			if got := More(Of(s[:i]), s[i:]); got != want {
				t.Errorf("%q, and %q: %08x; want %08x", s[:i], s[i:], got, want)
			}
		}
		for _, c := range starts() {
			want := More(c, s)
			i := len(s) / 3
			if got := More(More(c, s[:i]), s[i:]); got != want {
				t.Errorf("%08x, %q, and %q: %08x; want %08x", c, s[:i], s[i:], got, want)
			}
		}
	}
}

func TestTheSumOfManyParts(t *testing.T) {
	for _, s := range texts() {
		c := uint32(0)
		for i := range len(s) {
			c = More(c, s[i:i+1])
		}
		if want := Of(s); c != want {
			t.Errorf("%q, byte by byte: %08x; want %08x", s, c, want)
		}
	}
}

func TestAnotherByteIsTold(t *testing.T) {
	for _, s := range texts() {
		sum := Of(s)
		for i := range len(s) {
			for b := range 256 {
				if byte(b) != s[i] && Of(with(s, i, byte(b))) == sum {
					t.Fatalf("%q: byte %d may be %d", s, i, b)
				}
			}
		}
	}
}

func TestAnotherByteIsToldBehindEachSum(t *testing.T) {
	for _, c := range starts() {
		seen := map[uint32]int{}
		for b := range 256 {
			sum := More(c, string([]byte{byte(b)})+"xyz")
			if other, ok := seen[sum]; ok {
				t.Errorf("%08x: the bytes %d and %d have one sum", c, other, b)
			}
			seen[sum] = b
		}
	}
}

func TestBytesThatChangePlacesAreTold(t *testing.T) {
	for _, s := range texts() {
		sum := Of(s)
		for i := 1; i < len(s); i++ {
			if s[i-1] != s[i] && Of(with(with(s, i-1, s[i]), i, s[i-1])) == sum {
				t.Errorf("%q: the bytes %d and %d may change places", s, i-1, i)
			}
		}
	}
}

func TestAnyUnlikeBytesThatChangePlacesAreTold(t *testing.T) {
	for a := range 256 {
		for b := range a {
			one := string([]byte{byte(a), byte(b)})
			other := string([]byte{byte(b), byte(a)})
			for _, x := range []struct{ ahead, behind string }{{"", ""}, {"abc", ""}, {"", "\x00\xff/"}, {"\xff", "ab"}} {
				if Of(x.ahead+one+x.behind) == Of(x.ahead+other+x.behind) {
					t.Fatalf("%q: the bytes %d and %d may change places", x, a, b)
				}
			}
		}
	}
}

// P1: whatever comes, each call ends, and none panics.

func FuzzMore(f *testing.F) {
	for _, s := range texts() {
		f.Add(uint32(0), s, len(s)/2)
		f.Add(uint32(math.MaxUint32), s, 1)
	}
	f.Fuzz(func(t *testing.T, c uint32, s string, cut int) {
		got := More(c, s)
		if want := crc32.Update(c, crc32.IEEETable, []byte(s)); got != want {
			t.Fatalf("More(%08x, %q): %08x; want %08x", c, s, got, want)
		}
		if cut < 0 || cut > len(s) {
			return
		}
		if parts := More(More(c, s[:cut]), s[cut:]); parts != got {
			t.Fatalf("More(%08x, %q), cut at %d: %08x; want %08x", c, s, cut, parts, got)
		}
	})
}
