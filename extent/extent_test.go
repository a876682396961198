package extent

import (
	"math"
	"math/rand/v2"
	"strings"
	"testing"

	"thimble/api"
)

// plainWrite is Write as the chapter's words say it, byte by byte.
func plainWrite(data string, off int, s string) (string, api.Errno) {
	if off < 0 || len(s) == 0 {
		return data, api.ErrArg
	}
	if off > 64 || off+len(s) > 64 || len(data) > 64 {
		return data, api.ErrBig
	}
	var told strings.Builder
	for i := 0; i < len(data) || i < off+len(s); i++ {
		switch {
		case i >= off && i < off+len(s):
			told.WriteByte(s[i-off])
		case i < len(data):
			told.WriteByte(data[i])
		default:
			told.WriteByte(0)
		}
	}
	return told.String(), api.OK
}

// plainTrunc is Trunc as the chapter's words say it.
func plainTrunc(data string, size int) (string, api.Errno) {
	if size < 0 {
		return data, api.ErrArg
	}
	if size > 64 || len(data) > 64 {
		return data, api.ErrBig
	}
	if size <= len(data) {
		return data[:size], api.OK
	}
	return data + strings.Repeat("\x00", size-len(data)), api.OK
}

// plainRead is Read as the chapter's words say it: byte by byte, till there is none, or there are enough.
func plainRead(data string, off, many int) string {
	var told strings.Builder
	for i := range len(data) {
		if off >= 0 && i >= off && told.Len() < many {
			told.WriteByte(data[i])
		}
	}
	return told.String()
}

// some is a text of so many bytes, each other than its neighbours, and none of them zero.
func some(first byte, many int) string {
	var b strings.Builder
	for i := range many {
		b.WriteByte(first + byte(i%90))
	}
	return b.String()
}

// Bytes of data, and of what is written: none is in both.
func old(many int) string   { return some(1, many) }
func fresh(many int) string { return some(128, many) }

// far are numbers at the edges of ints, and of smaller ones.
func far() []int {
	return []int{math.MinInt, math.MinInt + 1, math.MinInt + 64, math.MinInt32, -65537, -256, 256, 65536, math.MaxInt32, math.MaxInt - 65, math.MaxInt - 64, math.MaxInt - 63, math.MaxInt - 1, math.MaxInt}
}

// near are all numbers from below 0 to above the limit, and those far off.
func near() []int {
	all := far()
	for n := -3; n <= 68; n++ {
		all = append(all, n)
	}
	return all
}

func wantData(t *testing.T, got string, e api.Errno, want string, wantE api.Errno) {
	t.Helper()
	if got != want || e != wantE {
		t.Fatalf("%.100q, %d; want %.100q, %d", got, e, want, wantE)
	}
}

func wantText(t *testing.T, got, want string) {
	t.Helper()
	if got != want {
		t.Fatalf("%.100q; want %.100q", got, want)
	}
}

// P8.1: what is written, and cut.

func TestTheExample(t *testing.T) {
	got, e := Write("a", 3, "x")
	wantData(t, got, e, "a\x00\x00x", api.OK)
}

func TestWrite(t *testing.T) {
	full := old(64)
	for _, x := range []struct {
		data string
		off  int
		s    string
		want string
	}{
		// Into nothing.
		{"", 0, "x", "x"},
		{"", 0, "xyz", "xyz"},
		{"", 1, "x", "\x00x"},
		{"", 4, "xy", "\x00\x00\x00\x00xy"},
		{"", 0, fresh(64), fresh(64)},
		{"", 1, fresh(63), "\x00" + fresh(63)},
		{"", 63, "x", strings.Repeat("\x00", 63) + "x"},
		// Before the end, to it, and behind it.
		{"abcdef", 0, "x", "xbcdef"},
		{"abcdef", 0, "xyz", "xyzdef"},
		{"abcdef", 2, "xy", "abxyef"},
		{"abcdef", 4, "x", "abcdxf"},
		{"abcdef", 5, "x", "abcdex"},
		{"abcdef", 4, "xy", "abcdxy"},
		{"abcdef", 0, "uvwxyz", "uvwxyz"},
		{"abcdef", 4, "xyz", "abcdxyz"},
		{"abcdef", 0, "tuvwxyz", "tuvwxyz"},
		{"abcdef", 5, "xyz", "abcdexyz"},
		// At the end, and behind it.
		{"abcdef", 6, "x", "abcdefx"},
		{"abcdef", 6, "xyz", "abcdefxyz"},
		{"abcdef", 7, "x", "abcdef\x00x"},
		{"abcdef", 9, "xyz", "abcdef\x00\x00\x00xyz"},
		// Up to the limit, just so.
		{"a", 63, "x", "a" + strings.Repeat("\x00", 62) + "x"},
		{"a", 1, fresh(63), "a" + fresh(63)},
		{"a", 0, fresh(64), fresh(64)},
		{full, 0, "x", "x" + full[1:]},
		{full, 0, fresh(63), fresh(63) + full[63:]},
		{full, 0, fresh(64), fresh(64)},
		{full, 1, fresh(63), full[:1] + fresh(63)},
		{full, 63, "x", full[:63] + "x"},
		{full, 30, "xyz", full[:30] + "xyz" + full[33:]},
		{full[:63], 63, "x", full[:63] + "x"},
		// Whatever bytes: zeros are written, too.
		{"abc", 1, "\x00", "a\x00c"},
		{"abc", 3, "\x00", "abc\x00"},
		{"abc", 4, "\x00\x00", "abc\x00\x00\x00"},
		{"\x00\xff\xfe", 2, "\xc3\xbc\n", "\x00\xff\xc3\xbc\n"},
		{"abc", 0, "abc", "abc"},
	} {
		got, e := Write(x.data, x.off, x.s)
		wantData(t, got, e, x.want, api.OK)
	}
}

func TestWriteAheadOfData(t *testing.T) {
	for _, data := range []string{"", "a", "abcdef", old(63), old(64), old(65), old(200)} {
		for _, off := range []int{-1, -2, -3, -6, -63, -64, -65, -256, -65536, math.MinInt32, math.MinInt + 1, math.MinInt} {
			for _, s := range []string{"", "x", "xyz", fresh(63), fresh(64), fresh(65), fresh(128), fresh(1000)} {
				got, e := Write(data, off, s)
				wantData(t, got, e, data, api.ErrArg)
			}
		}
	}
}

func TestWriteOfNothing(t *testing.T) {
	// Told ahead of all that is too big.
	for _, data := range []string{"", "a", "abcdef", old(63), old(64), old(65), old(200)} {
		for _, off := range near() {
			got, e := Write(data, off, "")
			wantData(t, got, e, data, api.ErrArg)
		}
	}
}

func TestWriteBehindTheLimit(t *testing.T) {
	for _, data := range []string{"", "a", "abcdef", old(63), old(64), old(65), old(200)} {
		for _, off := range []int{64, 65, 66, 127, 128, 192, 255, 256, 257, 320, 65536, math.MaxInt32, math.MaxInt32 + 1, 1 << 32, 1<<32 + 1, math.MaxInt - 64, math.MaxInt - 1, math.MaxInt} {
			for _, s := range []string{"x", "xyz", fresh(64), fresh(65), fresh(1000)} {
				got, e := Write(data, off, s)
				wantData(t, got, e, data, api.ErrBig)
			}
		}
	}
}

func TestWriteOfTooMuch(t *testing.T) {
	for _, data := range []string{"", "a", "abcdef", old(63), old(64)} {
		for off := range 65 {
			for _, more := range []int{1, 2, 64, 192, 256, 1000} {
				got, e := Write(data, off, fresh(64-off+more))
				wantData(t, got, e, data, api.ErrBig)
			}
		}
	}
}

func TestWriteIntoTooMuch(t *testing.T) {
	for _, many := range []int{65, 66, 127, 128, 256, 320, 1000} {
		for off := range 64 {
			for _, s := range []string{"x", fresh(64 - off)} {
				got, e := Write(old(many), off, s)
				wantData(t, got, e, old(many), api.ErrBig)
			}
		}
	}
}

func TestEachWrite(t *testing.T) {
	for dataLen := range 68 {
		data := old(dataLen)
		for off := -2; off <= 67; off++ {
			for sLen := range 68 {
				s := fresh(sLen)
				want, wantE := plainWrite(data, off, s)
				got, e := Write(data, off, s)
				wantData(t, got, e, want, wantE)
			}
		}
	}
}

func TestTrunc(t *testing.T) {
	full := old(64)
	for _, x := range []struct {
		data string
		size int
		want string
	}{
		{"", 0, ""},
		{"", 1, "\x00"},
		{"", 64, strings.Repeat("\x00", 64)},
		{"abc", 0, ""},
		{"abc", 1, "a"},
		{"abc", 2, "ab"},
		{"abc", 3, "abc"},
		{"abc", 4, "abc\x00"},
		{"abc", 7, "abc\x00\x00\x00\x00"},
		{"abc", 63, "abc" + strings.Repeat("\x00", 60)},
		{"abc", 64, "abc" + strings.Repeat("\x00", 61)},
		{"\xff\x00\xc3\xbc", 3, "\xff\x00\xc3"},
		{"\xff\x00\xc3\xbc", 5, "\xff\x00\xc3\xbc\x00"},
		{full[:63], 64, full[:63] + "\x00"},
		{full[:63], 63, full[:63]},
		{full, 0, ""},
		{full, 1, full[:1]},
		{full, 63, full[:63]},
		{full, 64, full},
	} {
		got, e := Trunc(x.data, x.size)
		wantData(t, got, e, x.want, api.OK)
	}
}

func TestTruncBelowNothing(t *testing.T) {
	// Told ahead of data that is too big.
	for _, data := range []string{"", "a", "abcdef", old(64), old(65), old(200)} {
		for _, size := range []int{-1, -2, -64, -65, -256, math.MinInt32, math.MinInt + 1, math.MinInt} {
			got, e := Trunc(data, size)
			wantData(t, got, e, data, api.ErrArg)
		}
	}
}

func TestTruncToTooMuch(t *testing.T) {
	for _, data := range []string{"", "a", "abcdef", old(63), old(64), old(65), old(66), old(200)} {
		for _, size := range []int{65, 66, 128, 200, 256, 320, 65536, math.MaxInt32, 1 << 32, 1<<32 + 1, math.MaxInt - 1, math.MaxInt} {
			got, e := Trunc(data, size)
			wantData(t, got, e, data, api.ErrBig)
		}
	}
}

func TestTruncOfTooMuch(t *testing.T) {
	// Also to a size that may be.
	for _, many := range []int{65, 66, 128, 256, 320, 1000} {
		for size := range 65 {
			got, e := Trunc(old(many), size)
			wantData(t, got, e, old(many), api.ErrBig)
		}
	}
}

func TestEachTrunc(t *testing.T) {
	for dataLen := range 70 {
		for _, size := range near() {
			want, wantE := plainTrunc(old(dataLen), size)
			got, e := Trunc(old(dataLen), size)
			wantData(t, got, e, want, wantE)
		}
	}
}

// P8.2: what is read.

func TestRead(t *testing.T) {
	for _, x := range []struct {
		off, many int
		want      string
	}{
		// Inside, to the end just so, and one more.
		{0, 1, "a"}, {0, 2, "ab"}, {0, 5, "abcde"}, {0, 6, "abcdef"}, {0, 7, "abcdef"}, {0, 64, "abcdef"}, {0, 65, "abcdef"}, {0, math.MaxInt, "abcdef"},
		{1, 1, "b"}, {1, 4, "bcde"}, {1, 5, "bcdef"}, {1, 6, "bcdef"}, {1, math.MaxInt - 1, "bcdef"}, {1, math.MaxInt, "bcdef"},
		{4, 1, "e"}, {4, 2, "ef"}, {4, 3, "ef"}, {4, math.MaxInt - 4, "ef"}, {4, math.MaxInt - 3, "ef"}, {4, math.MaxInt, "ef"},
		{5, 1, "f"}, {5, 2, "f"}, {5, math.MaxInt - 5, "f"}, {5, math.MaxInt - 4, "f"}, {5, math.MaxInt, "f"},
		// At the end, and behind it.
		{6, 1, ""}, {6, 2, ""}, {6, math.MaxInt, ""}, {7, 1, ""}, {64, 1, ""}, {65, 1, ""}, {256, 1, ""}, {1 << 32, 3, ""}, {math.MaxInt, 1, ""}, {math.MaxInt, math.MaxInt, ""},
		// Ahead of data: not even what would be inside.
		{-1, 1, ""}, {-1, 2, ""}, {-1, 7, ""}, {-1, math.MaxInt, ""}, {-6, 3, ""}, {math.MinInt, 1, ""}, {math.MinInt, math.MaxInt, ""},
		// None.
		{0, 0, ""}, {0, -1, ""}, {3, 0, ""}, {3, -1, ""}, {3, -3, ""}, {3, math.MinInt, ""}, {5, 0, ""}, {6, 0, ""}, {6, -1, ""}, {-1, 0, ""}, {-1, -1, ""}, {math.MinInt, math.MinInt, ""}, {math.MaxInt, math.MinInt, ""}, {math.MaxInt, 0, ""},
	} {
		wantText(t, Read("abcdef", x.off, x.many), x.want)
	}
}

func TestReadOfNothing(t *testing.T) {
	for _, off := range near() {
		for _, many := range near() {
			wantText(t, Read("", off, many), "")
		}
	}
}

func TestReadOfMoreThanTheLimit(t *testing.T) {
	data := old(65) + "end"
	for _, x := range []struct {
		off, many int
		want      string
	}{
		{0, 64, data[:64]}, {0, 65, data[:65]}, {0, 66, data[:66]}, {0, 67, data[:67]}, {0, 68, data}, {0, 69, data}, {0, math.MaxInt, data},
		{1, 66, data[1:67]}, {63, 2, data[63:65]}, {64, 1, data[64:65]}, {64, 4, data[64:]}, {64, math.MaxInt, data[64:]},
		{65, 1, "e"}, {65, 3, "end"}, {65, 4, "end"}, {67, 1, "d"}, {67, math.MaxInt, "d"}, {68, 1, ""}, {69, 1, ""}, {-1, 4, ""},
	} {
		wantText(t, Read(data, x.off, x.many), x.want)
	}
	long := strings.Repeat(old(80), 1000)
	wantText(t, Read(long, 0, math.MaxInt), long)
	wantText(t, Read(long, 40000, 30000), long[40000:70000])
	wantText(t, Read(long, 79999, 30000), long[79999:])
	wantText(t, Read(long, 80000, 30000), "")
}

func TestEachRead(t *testing.T) {
	for _, dataLen := range []int{1, 2, 5, 63, 64, 65, 66} {
		data := old(dataLen)
		for _, off := range near() {
			for _, many := range near() {
				wantText(t, Read(data, off, many), plainRead(data, off, many))
			}
		}
	}
}

// P8.3: what was written is read; all other bytes are as they were; what is cut off is gone.

func TestWhatIsWrittenIsRead(t *testing.T) {
	for dataLen := range 65 {
		data := old(dataLen)
		for off := range 64 {
			for sLen := 1; off+sLen <= 64; sLen++ {
				s := fresh(sLen)
				got, e := Write(data, off, s)
				if e != api.OK {
					t.Fatalf("%d bytes at %d into %d: error %d", sLen, off, dataLen, e)
				}
				if len(got) != max(dataLen, off+sLen) {
					t.Fatalf("%d bytes at %d into %d: %d bytes", sLen, off, dataLen, len(got))
				}
				wantText(t, Read(got, off, sLen), s)
				wantText(t, Read(got, 0, min(off, dataLen)), Read(data, 0, min(off, dataLen)))
				wantText(t, Read(got, off+sLen, 64), Read(data, off+sLen, 64))
				wantText(t, Read(got, dataLen, off-dataLen), strings.Repeat("\x00", max(off-dataLen, 0)))
			}
		}
	}
}

func TestWhatIsCutOffIsGone(t *testing.T) {
	for dataLen := range 65 {
		data := old(dataLen)
		for size := range dataLen {
			cut, e := Trunc(data, size)
			wantData(t, cut, e, data[:size], api.OK)
			grown, e := Trunc(cut, dataLen)
			wantData(t, grown, e, data[:size]+strings.Repeat("\x00", dataLen-size), api.OK)
			grown, e = Trunc(cut, 64)
			wantData(t, grown, e, data[:size]+strings.Repeat("\x00", 64-size), api.OK)
			written, e := Write(cut, 63, "x")
			wantData(t, written, e, data[:size]+strings.Repeat("\x00", 63-size)+"x", api.OK)
		}
	}
}

// cells are a file of 64 bytes, of which so many are told: what is cut off is made zero at once.
type cells struct {
	at   [64]byte
	size int
}

func (c *cells) write(off int, s string) {
	for i := range len(s) {
		c.at[off+i] = s[i]
	}
	c.size = max(c.size, off+len(s))
}

func (c *cells) trunc(size int) {
	for i := size; i < len(c.at); i++ {
		c.at[i] = 0
	}
	c.size = size
}

func TestLongRows(t *testing.T) {
	r := rand.New(rand.NewPCG(8, 3))
	for range 300 {
		data, c := "", cells{}
		for range 200 {
			got, e := data, api.OK
			want := api.OK
			if r.IntN(3) > 0 {
				off, s := r.IntN(70)-2, some(byte(r.IntN(256)), r.IntN(1+r.IntN(66)))
				got, e = Write(data, off, s)
				if _, want = plainWrite(data, off, s); want == api.OK {
					c.write(off, s)
				}
			} else {
				size := r.IntN(70) - 2
				got, e = Trunc(data, size)
				if _, want = plainTrunc(data, size); want == api.OK {
					c.trunc(size)
				}
			}
			wantData(t, got, e, string(c.at[:c.size]), want)
			data = got
			off, many := r.IntN(70)-2, r.IntN(70)-2
			wantText(t, Read(data, off, many), plainRead(string(c.at[:c.size]), off, many))
		}
	}
}

// R3 and R4: nothing is turned that was handed in or told, and nothing is kept.

func TestNothingIsShared(t *testing.T) {
	data := strings.Clone("abcdef")
	first, _ := Write(data, 2, "xy")
	read := Read(first, 1, 4)
	second, _ := Write(first, 0, "uvwxyz")
	third, _ := Trunc(second, 3)
	fourth, _ := Write(third, 3, "end")
	again, _ := Write(data, 2, "xy")
	for _, x := range []struct{ got, want string }{
		{data, "abcdef"}, {first, "abxyef"}, {read, "bxye"}, {second, "uvwxyz"}, {third, "uvw"}, {fourth, "uvwend"}, {again, "abxyef"},
	} {
		wantText(t, x.got, x.want)
	}
}

// P1: whatever comes, each call ends, and none panics.

func TestFarOff(t *testing.T) {
	for _, data := range []string{"", "a", old(64), old(65)} {
		for _, off := range far() {
			got, e := Write(data, off, "x")
			want := api.ErrBig
			if off < 0 {
				want = api.ErrArg
			}
			wantData(t, got, e, data, want)
			got, e = Trunc(data, off)
			wantData(t, got, e, data, want)
			for _, many := range far() {
				wantText(t, Read(data, off, many), "")
			}
		}
	}
}

func FuzzExtent(f *testing.F) {
	f.Add("a", 3, "x", 2)
	f.Add("", 0, "", 0)
	f.Add(old(64), 63, "x", 64)
	f.Add(old(65), 64, "xy", 65)
	f.Add("abc", math.MaxInt, "x", math.MaxInt)
	f.Add("abc", math.MinInt, "x", math.MinInt)
	f.Fuzz(func(t *testing.T, data string, off int, s string, many int) {
		want, wantE := plainWrite(data, off, s)
		got, e := Write(data, off, s)
		wantData(t, got, e, want, wantE)
		if e == api.OK {
			wantText(t, Read(got, off, len(s)), s)
		}
		want, wantE = plainTrunc(data, many)
		got, e = Trunc(data, many)
		wantData(t, got, e, want, wantE)
		wantText(t, Read(data, off, many), plainRead(data, off, many))
	})
}
