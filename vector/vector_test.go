package vector

import (
	"encoding/binary"
	"math"
	"strings"
	"testing"

	"thimble/api"
	"thimble/pack"
)

const top = 1 << 30 // the greatest number that may be

// inside are numbers that may be: the edges, and between them those where the bytes become one more.
var inside = []int{0, 1, 2, 63, 64, 127, 128, 8191, 8192, 1 << 20, 1<<27 - 1, 1 << 27, top - 1, top}

// outside are numbers that may not be: next to the edges, and far off.
var outside = []int{-1, -2, -64, -top, -top - 1, math.MinInt32, math.MinInt + 1, math.MinInt, top + 1, top + 2, 2 * top, math.MaxInt32, 1 << 32, 1<<32 + 1, 1<<32 + top, math.MaxInt - 1, math.MaxInt}

// noReps are numbers of no replica.
var noReps = []int{-1, -2, -8, math.MinInt32, math.MinInt, 8, 9, 15, 16, 64, 256, 1 << 32, 1<<32 + 3, math.MaxInt}

// tails are what may stand behind a vector's bytes.
var tails = []string{"", "\x00", "\x01", "\x02\x02", "\x7f", "\x80", "\xff", "ab", strings.Repeat("\x00", 8), strings.Repeat("\xff", 20)}

// bases are vectors that may be, one place of which is then made another one.
var bases = []Vec{
	{},
	{top, top, top, top, top, top, top, top},
	{1, 2, 3, 4, 5, 6, 7, 8},
	{top, 0, 64, 1, 8192, 63, top - 1, 2},
}

// with is a vector with another number of a replica.
func with(v Vec, rep, n int) Vec {
	v[rep] = n
	return v
}

// good are vectors that may be, each number of those inside at each place.
func good() []Vec {
	var l []Vec
	for _, v := range bases {
		l = append(l, v)
		for rep := range v {
			for _, n := range inside {
				l = append(l, with(v, rep, n))
			}
		}
	}
	return l
}

// bad are vectors that may not be, for one number alone, or for more.
func bad() []Vec {
	var l []Vec
	for _, v := range bases {
		for rep := range v {
			for _, n := range outside {
				l = append(l, with(v, rep, n), with(with(v, rep, n), (rep+3)%8, -1), with(with(v, rep, n), (rep+5)%8, top+1))
			}
		}
	}
	return append(l, Vec{-1, -1, -1, -1, -1, -1, -1, -1}, Vec{top + 1, top + 1, top + 1, top + 1, top + 1, top + 1, top + 1, top + 1})
}

// far are vectors that hold the least and the greatest ints, too.
func far() []Vec {
	l := []Vec{
		{},
		{math.MinInt, math.MinInt, math.MinInt, math.MinInt, math.MinInt, math.MinInt, math.MinInt, math.MinInt},
		{math.MaxInt, math.MaxInt, math.MaxInt, math.MaxInt, math.MaxInt, math.MaxInt, math.MaxInt, math.MaxInt},
		{math.MinInt, math.MaxInt, math.MinInt, math.MaxInt, 0, -1, 1, top},
		{math.MaxInt, math.MinInt, -1, 1, math.MaxInt, math.MinInt, top, 0},
		{1, 2, 3, 4, 5, 6, 7, 8},
		{8, 7, 6, 5, 4, 3, 2, 1},
		{-1, 2, -3, 4, -5, 6, -7, 8},
		{2, -1, 4, -3, 6, -5, 8, -7},
	}
	for rep := range 8 {
		for _, n := range []int{math.MinInt, -1, 1, math.MaxInt} {
			l = append(l, with(Vec{}, rep, n), with(Vec{1, 2, 3, 4, 5, 6, 7, 8}, rep, n))
		}
	}
	return l
}

// few are all vectors whose numbers of three replicas are 0, 1 or 2.
func few() []Vec {
	var l []Vec
	for i := range 27 {
		l = append(l, Vec{0: i % 3, 3: i / 3 % 3, 7: i / 9})
	}
	return l
}

// covers tells whether one vector covers another one, as P4.1's words say it.
func covers(a, b Vec) bool {
	below := 0
	for rep := range 8 {
		if a[rep] < b[rep] {
			below++
		}
	}
	return below == 0
}

// put is a vector as bytes, as P4.3's words say it.
func put(v Vec) string {
	return pack.Int(int64(v[0])) + pack.Int(int64(v[1])) + pack.Int(int64(v[2])) + pack.Int(int64(v[3])) +
		pack.Int(int64(v[4])) + pack.Int(int64(v[5])) + pack.Int(int64(v[6])) + pack.Int(int64(v[7]))
}

// P4.1: what may be, what covers what, join and meet, and one more.

func TestMay(t *testing.T) {
	for _, v := range good() {
		if !May(v) {
			t.Errorf("May(%v): false", v)
		}
	}
	for _, v := range bad() {
		if May(v) {
			t.Errorf("May(%v): true", v)
		}
	}
}

func TestMayAtTheEdgesOfEachPlace(t *testing.T) {
	for rep := range 8 {
		for _, x := range []struct {
			n   int
			may bool
		}{{-1, false}, {0, true}, {1, true}, {top - 1, true}, {top, true}, {top + 1, false}} {
			if got := May(with(Vec{}, rep, x.n)); got != x.may {
				t.Errorf("May of %d at %d: %t", x.n, rep, got)
			}
		}
	}
}

func TestCovers(t *testing.T) {
	v := Vec{3, 1, 4, 1, 5, 9, 2, 6}
	for _, x := range []struct {
		why  string
		a, b Vec
		want bool
	}{
		{"the zero ones", Vec{}, Vec{}, true},
		{"the same", v, v, true},
		{"all above", Vec{4, 2, 5, 2, 6, 10, 3, 7}, v, true},
		{"all below", Vec{2, 0, 3, 0, 4, 8, 1, 5}, v, false},
		{"some above, the others the same", Vec{3, 2, 4, 1, 5, 9, 3, 6}, v, true},
		{"some below, the others the same", Vec{3, 1, 4, 0, 5, 9, 2, 5}, v, false},
		{"some above, one below", Vec{3, 2, 4, 1, 5, 9, 2, 5}, v, false},
		{"one above, some below", Vec{9, 0, 0, 0, 0, 0, 0, 0}, v, false},
		{"all above but the first one", Vec{2, 2, 5, 2, 6, 10, 3, 7}, v, false},
		{"all above but the last one", Vec{4, 2, 5, 2, 6, 10, 3, 5}, v, false},
		{"numbers below 0", Vec{-2}, Vec{-1}, false},
		{"numbers below 0", Vec{-1}, Vec{-2}, true},
		{"the least and the greatest", Vec{math.MinInt}, Vec{math.MaxInt}, false},
		{"the greatest and the least", Vec{math.MaxInt}, Vec{math.MinInt}, true},
	} {
		if got := Covers(x.a, x.b); got != x.want {
			t.Errorf("%s: Covers(%v, %v): %t", x.why, x.a, x.b, got)
		}
	}
}

func TestCoversAtEachPlace(t *testing.T) {
	v := Vec{3, 1, 4, 1, 5, 9, 2, 6}
	for rep := range 8 {
		up, down := with(v, rep, v[rep]+1), with(v, rep, v[rep]-1)
		if !Covers(up, v) || Covers(v, up) {
			t.Errorf("one more at %d: %t, %t", rep, Covers(up, v), Covers(v, up))
		}
		if Covers(down, v) || !Covers(v, down) {
			t.Errorf("one less at %d: %t, %t", rep, Covers(down, v), Covers(v, down))
		}
		for other := range 8 {
			mixed := with(up, other, v[other]-1)
			if other != rep && (Covers(mixed, v) || Covers(v, mixed)) {
				t.Errorf("one more at %d, one less at %d: %t, %t", rep, other, Covers(mixed, v), Covers(v, mixed))
			}
		}
	}
}

func TestCoversOfAnyNumbers(t *testing.T) {
	for _, a := range far() {
		for _, b := range far() {
			if got, want := Covers(a, b), covers(a, b); got != want {
				t.Errorf("Covers(%v, %v): %t; want %t", a, b, got, want)
			}
		}
	}
}

func TestJoinAndMeet(t *testing.T) {
	for _, x := range []struct {
		a, b, join, meet Vec
	}{
		{Vec{}, Vec{}, Vec{}, Vec{}},
		{Vec{1, 2, 3, 4, 5, 6, 7, 8}, Vec{}, Vec{1, 2, 3, 4, 5, 6, 7, 8}, Vec{}},
		{Vec{1, 2, 3, 4, 5, 6, 7, 8}, Vec{8, 7, 6, 5, 4, 3, 2, 1}, Vec{8, 7, 6, 5, 5, 6, 7, 8}, Vec{1, 2, 3, 4, 4, 3, 2, 1}},
		{Vec{1, 0, 1, 0, 1, 0, 1, 0}, Vec{0, 1, 0, 1, 0, 1, 0, 1}, Vec{1, 1, 1, 1, 1, 1, 1, 1}, Vec{}},
		{Vec{-1, 2, -3, 4, 0, 0, 5, 5}, Vec{1, -2, -4, 0, 4, -4, 5, 6}, Vec{1, 2, -3, 4, 4, 0, 5, 6}, Vec{-1, -2, -4, 0, 0, -4, 5, 5}},
		{Vec{math.MinInt, math.MaxInt, top, 0}, Vec{math.MaxInt, math.MinInt, 0, top}, Vec{math.MaxInt, math.MaxInt, top, top}, Vec{math.MinInt, math.MinInt, 0, 0}},
	} {
		for _, y := range [][2]Vec{{x.a, x.b}, {x.b, x.a}} {
			if got := Join(y[0], y[1]); got != x.join {
				t.Errorf("Join(%v, %v): %v; want %v", y[0], y[1], got, x.join)
			}
			if got := Meet(y[0], y[1]); got != x.meet {
				t.Errorf("Meet(%v, %v): %v; want %v", y[0], y[1], got, x.meet)
			}
		}
	}
}

func TestJoinAndMeetPlaceByPlace(t *testing.T) {
	v := Vec{3, 1, 4, 1, 5, 9, 2, 6}
	for rep := range 8 {
		for _, n := range []int{math.MinInt, -1, 0, v[rep] - 1, v[rep], v[rep] + 1, top, math.MaxInt} {
			other := with(v, rep, n)
			join, meet := v, other
			if n > v[rep] {
				join, meet = other, v
			}
			if Join(v, other) != join || Join(other, v) != join {
				t.Errorf("%d at %d: joined %v, %v; want %v", n, rep, Join(v, other), Join(other, v), join)
			}
			if Meet(v, other) != meet || Meet(other, v) != meet {
				t.Errorf("%d at %d: met %v, %v; want %v", n, rep, Meet(v, other), Meet(other, v), meet)
			}
		}
	}
}

func TestTick(t *testing.T) {
	v := Vec{3, 1, 4, 1, 5, 9, 2, 6}
	for rep := range 8 {
		got, n := Tick(v, rep)
		if want := with(v, rep, v[rep]+1); got != want || n != v[rep]+1 {
			t.Errorf("Tick(%v, %d): %v, %d; want %v, %d", v, rep, got, n, want, v[rep]+1)
		}
		got, n = Tick(Vec{}, rep)
		if want := with(Vec{}, rep, 1); got != want || n != 1 {
			t.Errorf("Tick of the zero one, of %d: %v, %d", rep, got, n)
		}
	}
	if v != (Vec{3, 1, 4, 1, 5, 9, 2, 6}) {
		t.Errorf("Tick made %v of what was handed in", v)
	}
}

func TestTickOfAnyNumber(t *testing.T) {
	for rep := range 8 {
		for _, x := range []struct{ n, want int }{
			{-1, 0}, {0, 1}, {top - 1, top}, {top, top + 1}, {math.MaxInt32, 1 << 31},
			{math.MaxInt - 1, math.MaxInt}, {math.MaxInt, math.MinInt}, {math.MinInt, math.MinInt + 1},
		} {
			for _, base := range bases {
				got, n := Tick(with(base, rep, x.n), rep)
				if got != with(base, rep, x.want) || n != x.want {
					t.Errorf("Tick of %d at %d: %v, %d; want %d", x.n, rep, got, n, x.want)
				}
			}
		}
	}
}

func TestTickOfNoReplica(t *testing.T) {
	for _, rep := range noReps {
		for _, v := range far() {
			if got, n := Tick(v, rep); got != v || n != 0 {
				t.Errorf("Tick(%v, %d): %v, %d", v, rep, got, n)
			}
		}
	}
}

// P4.2: what can be seen next.

func TestReadyIsTheNextOne(t *testing.T) {
	for rep := range 8 {
		for _, n := range []int{0, 1, 2, 64, top - 1, top, math.MaxInt - 1} {
			v := with(Vec{3, 1, 4, 1, 5, 9, 2, 6}, rep, n)
			for _, x := range []struct {
				why  string
				seq  int
				want bool
			}{
				{"the next one", n + 1, true},
				{"the one that was seen", n, false},
				{"one that was seen long ago", n - 1, false},
				{"one too far on", min(n, math.MaxInt-2) + 2, n == math.MaxInt-1},
				{"none", 0, false},
				{"below all", -1, false},
				{"far below", math.MinInt, false},
				{"the greatest one", math.MaxInt, n == math.MaxInt-1},
			} {
				// What it had seen of its own replica is right, so that seq alone makes the difference.
				deps := with(Vec{}, rep, x.seq-1)
				if got := Ready(v, rep, x.seq, deps); got != x.want {
					t.Errorf("%s: Ready(%v, %d, %d, %v): %t", x.why, v, rep, x.seq, deps, got)
				}
			}
		}
	}
}

func TestReadyExample(t *testing.T) {
	v := Vec{2}
	for seq, want := range []bool{false, false, false, true, false, false} {
		if got := Ready(v, 0, seq, Vec{seq - 1}); got != want {
			t.Errorf("seen 2 of 0: Ready of %d: %t", seq, got)
		}
	}
}

func TestReadyOfNoReplica(t *testing.T) {
	for _, rep := range noReps {
		for _, seq := range []int{math.MinInt, -1, 0, 1, 2, 3, math.MaxInt} {
			for _, v := range []Vec{{}, {1, 1, 1, 1, 1, 1, 1, 1}, {2, 2, 2, 2, 2, 2, 2, 2}} {
				if Ready(v, rep, seq, v) || Ready(v, rep, seq, Vec{}) {
					t.Errorf("Ready(%v, %d, %d): true", v, rep, seq)
				}
			}
		}
	}
}

func TestReadyOfNoSeq(t *testing.T) {
	for rep := range 8 {
		for _, seq := range []int{0, -1, -2, -top, math.MinInt + 1, math.MinInt} {
			// One less of the least int is the greatest one, as numbers of 64 bits go round.
			v := with(Vec{}, rep, seq-1)
			if Ready(v, rep, seq, v) {
				t.Errorf("Ready(%v, %d, %d, the same): true", v, rep, seq)
			}
		}
	}
}

func TestReadyOfTheGreatestSeq(t *testing.T) {
	for rep := range 8 {
		last := with(Vec{}, rep, math.MaxInt-1)
		if !Ready(last, rep, math.MaxInt, last) {
			t.Errorf("of %d the greatest one isn't ready", rep)
		}
		all := with(Vec{}, rep, math.MaxInt)
		for _, seq := range []int{math.MinInt, 0, 1, math.MaxInt} {
			if Ready(all, rep, seq, all) || Ready(all, rep, seq, last) || Ready(last, rep, seq, all) {
				t.Errorf("of %d, with none left, %d is ready", rep, seq)
			}
		}
	}
}

func TestReadyNeedsWhatItHadSeen(t *testing.T) {
	v := Vec{3, 1, 4, 1, 5, 9, 2, 6}
	for rep := range 8 {
		seq := v[rep] + 1
		for _, x := range []struct {
			why  string
			deps Vec
			want bool
		}{
			{"all that was seen", v, true},
			{"nothing of others", with(Vec{}, rep, v[rep]), true},
			{"one less of all others", with(Vec{2, 0, 3, 0, 4, 8, 1, 5}, rep, v[rep]), true},
			{"one more of all others", with(Vec{4, 2, 5, 2, 6, 10, 3, 7}, rep, v[rep]), false},
			{"numbers below all of others", with(Vec{-1, -1, -1, -1, math.MinInt, -1, -1, -1}, rep, v[rep]), true},
			{"the greatest numbers of others", with(Vec{1: math.MaxInt, 6: math.MaxInt}, rep, v[rep]), false},
		} {
			if got := Ready(v, rep, seq, x.deps); got != x.want {
				t.Errorf("%s: Ready(%v, %d, %d, %v): %t", x.why, v, rep, seq, x.deps, got)
			}
		}
		for other := range 8 {
			if other != rep && Ready(v, rep, seq, with(v, other, v[other]+1)) {
				t.Errorf("of %d: ready, though one of %d wasn't seen", rep, other)
			}
			if other != rep && !Ready(v, rep, seq, with(v, other, v[other]-1)) {
				t.Errorf("of %d: not ready, though all of %d was seen", rep, other)
			}
		}
	}
}

func TestReadyNeedsItsOwnNumberInWhatItHadSeen(t *testing.T) {
	v := Vec{3, 1, 4, 1, 5, 9, 2, 6}
	for rep := range 8 {
		for _, n := range []int{math.MinInt, -1, 0, v[rep] - 1, v[rep], v[rep] + 1, v[rep] + 2, math.MaxInt} {
			deps := with(v, rep, n)
			if got, want := Ready(v, rep, v[rep]+1, deps), n == v[rep]; got != want {
				t.Errorf("Ready(%v, %d, %d, %v): %t", v, rep, v[rep]+1, deps, got)
			}
		}
		// Of another seq neither what was seen nor that seq, less 1, is right.
		for _, seq := range []int{v[rep], v[rep] + 2} {
			if Ready(v, rep, seq, v) || Ready(v, rep, seq, with(v, rep, seq-1)) {
				t.Errorf("Ready(%v, %d, %d): true", v, rep, seq)
			}
		}
	}
}

// P4.3: a vector as bytes, and back.

func TestPut(t *testing.T) {
	for _, x := range []struct {
		v    Vec
		want string
	}{
		{Vec{}, "\x00\x00\x00\x00\x00\x00\x00\x00"},
		{Vec{1, 2, 3, 4, 5, 6, 7, 8}, "\x02\x04\x06\x08\x0a\x0c\x0e\x10"},
		{Vec{63, 64}, "\x7e\x80\x01\x00\x00\x00\x00\x00\x00"},
		{Vec{7: top}, "\x00\x00\x00\x00\x00\x00\x00\x80\x80\x80\x80\x08"},
		{Vec{-1, 0, -2, 7: -64}, "\x01\x00\x03\x00\x00\x00\x00\x7f"},
		{Vec{3: math.MinInt}, "\x00\x00\x00" + strings.Repeat("\xff", 9) + "\x01\x00\x00\x00\x00"},
		{Vec{0: math.MaxInt}, "\xfe" + strings.Repeat("\xff", 8) + "\x01" + strings.Repeat("\x00", 7)},
	} {
		if got := Put(x.v); got != x.want {
			t.Errorf("Put(%v): %q; want %q", x.v, got, x.want)
		}
	}
}

func TestPutOfAnyNumbers(t *testing.T) {
	for _, l := range [][]Vec{good(), bad(), far()} {
		for _, v := range l {
			if got, want := Put(v), put(v); got != want {
				t.Errorf("Put(%v): %q; want %q", v, got, want)
			}
		}
	}
}

func wantTaken(t *testing.T, b string, want Vec, rest string, e api.Errno) {
	t.Helper()
	got, gotRest, gotE := Take(b)
	if got != want || gotRest != rest || gotE != e {
		t.Errorf("Take(%q): %v, %q, %d; want %v, %q, %d", b, got, gotRest, gotE, want, rest, e)
	}
}

func TestTakeHasTheVectorAndWhatIsBehind(t *testing.T) {
	wantTaken(t, "\x02\x04\x06\x08\x0a\x0c\x0e\x10ab", Vec{1, 2, 3, 4, 5, 6, 7, 8}, "ab", api.OK)
	wantTaken(t, "\x00\x00\x00\x00\x00\x00\x00\x00", Vec{}, "", api.OK)
	for _, v := range good() {
		for _, tail := range tails {
			wantTaken(t, put(v)+tail, v, tail, api.OK)
		}
	}
}

func TestTakeOfWhatMayNotBe(t *testing.T) {
	for _, v := range bad() {
		for _, tail := range tails {
			wantTaken(t, put(v)+tail, Vec{}, "", api.ErrForm)
		}
	}
}

func TestTakeOfWhatIsCutOff(t *testing.T) {
	wantTaken(t, "", Vec{}, "", api.ErrForm)
	for _, v := range good() {
		b := put(v)
		for i := range len(b) {
			wantTaken(t, b[:i], Vec{}, "", api.ErrForm)
		}
	}
}

func TestTakeOfNumbersThatAreTooLong(t *testing.T) {
	ones := strings.Repeat("\xff", 9)
	for place := range 8 {
		ahead, behind := strings.Repeat("\x02", place), strings.Repeat("\x02", 8-place)
		for _, long := range []string{
			"\x80\x00", "\x82\x00", "\x80\x80\x00", "\xfe\x80\x00", "\x80\x80\x80\x80\x88\x00", // numbers that may be, in bytes too many
			ones + "\x00", ones + "\x02", ones + "\x03", ones + "\x7f", // above 64 bits, or a last byte too many
			ones + "\x80\x00", ones + "\x81\x01", ones + ones, strings.Repeat("\x80", 10) + "\x01", // more than ten bytes
			ones + "\x01", "\xfe" + ones[1:] + "\x01", // the least and the greatest int
		} {
			wantTaken(t, ahead+long+behind, Vec{}, "", api.ErrForm)
		}
	}
}

// P4.4: the least that covers both, and the greatest that both cover; what was seen isn't ready.

func TestJoinIsTheLeastThatCoversBoth(t *testing.T) {
	for _, a := range few() {
		for _, b := range few() {
			join := Join(a, b)
			if !covers(join, a) || !covers(join, b) {
				t.Fatalf("Join(%v, %v): %v, which doesn't cover both", a, b, join)
			}
			for _, c := range few() {
				if covers(c, a) && covers(c, b) && !covers(c, join) {
					t.Fatalf("Join(%v, %v): %v, but %v covers both, too", a, b, join, c)
				}
			}
		}
	}
}

func TestMeetIsTheGreatestThatBothCover(t *testing.T) {
	for _, a := range few() {
		for _, b := range few() {
			meet := Meet(a, b)
			if !covers(a, meet) || !covers(b, meet) {
				t.Fatalf("Meet(%v, %v): %v, which isn't covered by both", a, b, meet)
			}
			for _, c := range few() {
				if covers(a, c) && covers(b, c) && !covers(meet, c) {
					t.Fatalf("Meet(%v, %v): %v, but both cover %v, too", a, b, meet, c)
				}
			}
		}
	}
}

func TestJoinAndMeetOfAnyNumbers(t *testing.T) {
	for _, a := range far() {
		for _, b := range far() {
			join, meet := Join(a, b), Meet(a, b)
			if join != Join(b, a) || meet != Meet(b, a) {
				t.Fatalf("%v and %v: the order makes a difference", a, b)
			}
			if !Covers(join, a) || !Covers(join, b) || !Covers(a, meet) || !Covers(b, meet) {
				t.Fatalf("%v and %v: %v, %v", a, b, join, meet)
			}
			// The least and the greatest such ones, as at each place either of both is there.
			for rep := range 8 {
				if join[rep] != a[rep] && join[rep] != b[rep] || meet[rep] != a[rep] && meet[rep] != b[rep] {
					t.Fatalf("%v and %v: %v, %v", a, b, join, meet)
				}
			}
			if Covers(a, b) != (join == a) || Covers(a, b) != (meet == b) {
				t.Fatalf("%v and %v: %t, but %v, %v", a, b, Covers(a, b), join, meet)
			}
		}
	}
}

func TestJoinAndMeetOfWhatMayBeMayBe(t *testing.T) {
	for _, a := range good() {
		for _, b := range bases {
			if !May(Join(a, b)) || !May(Meet(a, b)) {
				t.Errorf("%v and %v: %v, %v", a, b, Join(a, b), Meet(a, b))
			}
		}
	}
}

func TestWhatIsReadyIsNotWhenItWasSeen(t *testing.T) {
	for _, v := range few() {
		for rep := range 8 {
			for _, deps := range few() {
				for seq := range 4 {
					if !Ready(v, rep, seq, deps) {
						continue
					}
					seen, n := Tick(v, rep)
					if n != seq {
						t.Fatalf("ready of %d is %d, but seen is %d", rep, seq, n)
					}
					for _, more := range append(few(), Vec{}, with(Vec{}, rep, 9)) {
						if Ready(Join(seen, more), rep, seq, deps) {
							t.Fatalf("Ready(%v, %d, %d, %v), though it was seen", Join(seen, more), rep, seq, deps)
						}
					}
				}
			}
		}
	}
}

func TestWhatIsNextIsReadyInTurn(t *testing.T) {
	v := Vec{}
	for i := range 200 {
		rep := i * i % 8
		next, n := Tick(v, rep)
		for r := range 8 {
			for seq := range 202 {
				if got, want := Ready(v, r, seq, with(v, r, seq-1)), seq == v[r]+1; got != want {
					t.Fatalf("Ready(%v, %d, %d): %t", v, r, seq, got)
				}
			}
		}
		if !Ready(v, rep, n, v) || Ready(next, rep, n, v) {
			t.Fatalf("%d of %d: %t ahead, %t behind", n, rep, Ready(v, rep, n, v), Ready(next, rep, n, v))
		}
		v = next
	}
	if v[0]+v[1]+v[2]+v[3]+v[4]+v[5]+v[6]+v[7] != 200 {
		t.Errorf("200 were seen: %v", v)
	}
}

func TestVectorsPutInTurnAreTakenInTurn(t *testing.T) {
	var b strings.Builder
	for _, v := range good() {
		b.WriteString(Put(v))
	}
	rest := b.String()
	for _, want := range good() {
		v, more, e := Take(rest)
		if v != want || e != api.OK {
			t.Fatalf("%v, %d; want %v", v, e, want)
		}
		rest = more
	}
	if rest != "" {
		t.Errorf("%q is left", rest)
	}
}

// P1: whatever comes, each call ends, and none panics.

func FuzzTake(f *testing.F) {
	for _, v := range append(bases, bad()[:20]...) {
		f.Add(Put(v) + "ab")
	}
	for _, tail := range tails {
		f.Add(tail)
	}
	f.Fuzz(func(t *testing.T, b string) {
		v, rest, e := Take(b)
		if e != api.OK {
			if v != (Vec{}) || rest != "" || e != api.ErrForm {
				t.Fatalf("Take(%q): %v, %q, %d", b, v, rest, e)
			}
			return
		}
		if !May(v) || Put(v)+rest != b {
			t.Fatalf("Take(%q): %v, %q", b, v, rest)
		}
	})
}

// numbers is a vector of any numbers, of eight bytes each; those that lack are 0.
func numbers(b []byte) Vec {
	var v Vec
	b = append(b[:len(b):len(b)], make([]byte, 64)...)
	for rep := range v {
		v[rep] = int(binary.LittleEndian.Uint64(b[8*rep:]))
	}
	return v
}

func FuzzReady(f *testing.F) {
	f.Add([]byte{2}, []byte{2}, 0, 3)
	f.Add([]byte{2}, []byte{1}, 0, 2)
	f.Add([]byte(strings.Repeat("\xff", 64)), []byte(strings.Repeat("\x7f", 64)), 7, math.MinInt)
	f.Add([]byte("\xff\xff\xff\xff\xff\xff\xff\x7f"), []byte("\xff\xff\xff\xff\xff\xff\xff\x7f"), 0, math.MinInt)
	f.Add([]byte{}, []byte{}, -1, math.MaxInt)
	f.Fuzz(func(t *testing.T, x, y []byte, rep, seq int) {
		v, deps := numbers(x), numbers(y)
		if Covers(v, deps) != covers(v, deps) || Covers(v, deps) != (Join(v, deps) == v) || Covers(v, deps) != (Meet(v, deps) == deps) {
			t.Fatalf("%v and %v: %t, %v, %v", v, deps, Covers(v, deps), Join(v, deps), Meet(v, deps))
		}
		seen, n := Tick(v, rep)
		if rep < 0 || rep > 7 {
			if seen != v || n != 0 || Ready(v, rep, seq, deps) {
				t.Fatalf("%v of %d: %v, %d, %t", v, rep, seen, n, Ready(v, rep, seq, deps))
			}
			return
		}
		if n != v[rep]+1 || seen != with(v, rep, n) {
			t.Fatalf("Tick(%v, %d): %v, %d", v, rep, seen, n)
		}
		want := seq >= 1 && v[rep] == seq-1 && deps[rep] == seq-1 && covers(v, deps)
		if Ready(v, rep, seq, deps) != want || want && Ready(seen, rep, seq, deps) {
			t.Fatalf("Ready(%v, %d, %d, %v): %t, and then %t", v, rep, seq, deps, !want, Ready(seen, rep, seq, deps))
		}
	})
}
