package stamp

import (
	"math"
	"slices"
	"strings"
	"testing"

	"thimble/api"
	"thimble/pack"
)

const top = 1 << 30 // the last time that may be

// times are those that may be, at the edges and between, and those just outside.
var times = []struct {
	time int64
	may  bool // with a replica
}{
	{math.MinInt64, false},
	{math.MinInt64 + 1, false},
	{math.MinInt32, false},
	{-top, false},
	{-2, false},
	{-1, false},
	{0, false},
	{1, true},
	{2, true},
	{63, true},
	{64, true},
	{8191, true},
	{8192, true},
	{1 << 20, true},
	{top - 1, true},
	{top, true},
	{top + 1, false},
	{math.MaxInt32, false},
	{1 << 31, false},
	{1 << 32, false},
	{1<<32 + 1, false},
	{math.MaxInt64 - 1, false},
	{math.MaxInt64, false},
}

// reps are the replicas, and numbers of none.
var reps = []struct {
	rep int
	may bool
}{
	{math.MinInt, false},
	{math.MinInt32, false},
	{-8, false},
	{-1, false},
	{0, true},
	{1, true},
	{2, true},
	{3, true},
	{4, true},
	{5, true},
	{6, true},
	{7, true},
	{8, false},
	{9, false},
	{63, false},
	{64, false},
	{math.MaxInt32, false},
	{math.MaxInt, false},
}

// tails are what may stand behind a stamp's bytes.
var tails = []string{"", "\x00", "\x01", "\x02\x02", "\x7f", "\x80", "\xff", "ab", strings.Repeat("\xff", 20)}

// rising are stamps, each above the one ahead of it, with all there can be in their fields.
func rising() []api.Stamp {
	var l []api.Stamp
	for _, x := range times {
		for _, y := range reps {
			l = append(l, api.Stamp{Time: x.time, Rep: y.rep})
		}
	}
	return l
}

// good are the stamps among them that may be.
func good() []api.Stamp {
	l := []api.Stamp{{}}
	for _, x := range times {
		for _, y := range reps {
			if x.may && y.may {
				l = append(l, api.Stamp{Time: x.time, Rep: y.rep})
			}
		}
	}
	return l
}

// bad are the stamps among them that may not be.
func bad() []api.Stamp {
	return slices.DeleteFunc(rising(), func(s api.Stamp) bool { return slices.Contains(good(), s) })
}

// put is a stamp as bytes, as P3.2's words say it.
func put(s api.Stamp) string {
	return pack.Int(s.Time) + pack.Int(int64(s.Rep))
}

// P3.1: what may be, the order, the greatest one, the next one.

func TestMay(t *testing.T) {
	for _, s := range good() {
		if !May(s) {
			t.Errorf("May(%v): false", s)
		}
	}
	for _, s := range bad() {
		if May(s) {
			t.Errorf("May(%v): true", s)
		}
	}
}

func TestMayAtTimeZeroIsTheZeroOneAlone(t *testing.T) {
	if !May(api.Stamp{}) {
		t.Errorf("the zero stamp may not be")
	}
	for _, y := range reps {
		if s := (api.Stamp{Rep: y.rep}); y.rep != 0 && May(s) {
			t.Errorf("May(%v): true", s)
		}
	}
}

func TestCompare(t *testing.T) {
	for _, x := range []struct {
		a, b api.Stamp
		want int
	}{
		{api.Stamp{}, api.Stamp{}, 0},
		{api.Stamp{Time: 5, Rep: 2}, api.Stamp{Time: 5, Rep: 2}, 0},
		{api.Stamp{Time: 5, Rep: 2}, api.Stamp{Time: 5, Rep: 1}, 1},
		{api.Stamp{Time: 5, Rep: 1}, api.Stamp{Time: 5, Rep: 7}, -1},
		{api.Stamp{Time: 4, Rep: 1}, api.Stamp{Time: 5, Rep: 1}, -1},
		{api.Stamp{Time: 4, Rep: 7}, api.Stamp{Time: 5, Rep: 0}, -1},
		{api.Stamp{Time: 5, Rep: 0}, api.Stamp{Time: 4, Rep: 7}, 1},
		{api.Stamp{}, api.Stamp{Time: 1}, -1},
		{api.Stamp{Time: -1, Rep: 7}, api.Stamp{}, -1},
		{api.Stamp{Rep: -1}, api.Stamp{}, -1},
		{api.Stamp{Time: math.MinInt64}, api.Stamp{Time: math.MaxInt64}, -1},
		{api.Stamp{Time: math.MaxInt64}, api.Stamp{Time: math.MinInt64}, 1},
		{api.Stamp{Time: 1, Rep: math.MaxInt}, api.Stamp{Time: 1, Rep: math.MinInt}, 1},
	} {
		if got := Compare(x.a, x.b); got != x.want {
			t.Errorf("Compare(%v, %v): %d; want %d", x.a, x.b, got, x.want)
		}
	}
}

func TestCompareIsByTimeAndThenByRep(t *testing.T) {
	l := rising()
	for i, a := range l {
		for j, b := range l {
			want := 0
			if i < j {
				want = -1
			} else if i > j {
				want = 1
			}
			if got := Compare(a, b); got != want {
				t.Fatalf("Compare(%v, %v): %d; want %d", a, b, got, want)
			}
		}
	}
}

func TestNext(t *testing.T) {
	for _, x := range []struct {
		time int64
		rep  int
		want api.Stamp
		e    api.Errno
	}{
		{4, 2, api.Stamp{Time: 5, Rep: 2}, api.OK},
		{0, 0, api.Stamp{Time: 1, Rep: 0}, api.OK},
		{0, 7, api.Stamp{Time: 1, Rep: 7}, api.OK},
		{top - 2, 3, api.Stamp{Time: top - 1, Rep: 3}, api.OK},
		{top - 1, 0, api.Stamp{Time: top, Rep: 0}, api.OK},
		{top - 1, 7, api.Stamp{Time: top, Rep: 7}, api.OK},
		{top, 0, api.Stamp{}, api.ErrOver},
		{top, 7, api.Stamp{}, api.ErrOver},
		{top + 1, 1, api.Stamp{}, api.ErrOver},
		{math.MaxInt64, 1, api.Stamp{}, api.ErrOver},
		{-1, 1, api.Stamp{}, api.ErrArg},
		{math.MinInt64, 1, api.Stamp{}, api.ErrArg},
		{4, -1, api.Stamp{}, api.ErrArg},
		{4, 8, api.Stamp{}, api.ErrArg},
		{4, math.MinInt, api.Stamp{}, api.ErrArg},
		{4, math.MaxInt, api.Stamp{}, api.ErrArg},
		// Both are wrong: the one that is named first is told.
		{top, 8, api.Stamp{}, api.ErrArg},
		{top, -1, api.Stamp{}, api.ErrArg},
		{math.MaxInt64, 8, api.Stamp{}, api.ErrArg},
		{-1, 8, api.Stamp{}, api.ErrArg},
	} {
		if got, e := Next(x.time, x.rep); got != x.want || e != x.e {
			t.Errorf("Next(%d, %d): %v, %d; want %v, %d", x.time, x.rep, got, e, x.want, x.e)
		}
	}
}

func TestNextAtEveryEdge(t *testing.T) {
	for _, x := range times {
		for _, y := range reps {
			var want api.Stamp
			e := api.OK
			if !y.may || x.time < 0 {
				e = api.ErrArg
			} else if x.time >= top {
				e = api.ErrOver
			} else {
				want = api.Stamp{Time: x.time + 1, Rep: y.rep}
			}
			if got, gotE := Next(x.time, y.rep); got != want || gotE != e {
				t.Errorf("Next(%d, %d): %v, %d; want %v, %d", x.time, y.rep, got, gotE, want, e)
			}
		}
	}
}

func TestMaxOfNone(t *testing.T) {
	if got := Max(); got != (api.Stamp{}) {
		t.Errorf("Max(): %v", got)
	}
	if got := Max([]api.Stamp{}...); got != (api.Stamp{}) {
		t.Errorf("Max of an empty list: %v", got)
	}
}

func TestMaxOfOne(t *testing.T) {
	for _, s := range rising() {
		if got := Max(s); got != s {
			t.Errorf("Max(%v): %v", s, got)
		}
	}
}

func TestMaxOfTwo(t *testing.T) {
	l := rising()
	for i, a := range l {
		for _, b := range l[i:] {
			if got := Max(a, b); got != b {
				t.Fatalf("Max(%v, %v): %v", a, b, got)
			}
			if got := Max(b, a); got != b {
				t.Fatalf("Max(%v, %v): %v", b, a, got)
			}
		}
	}
}

func TestMaxInAnyOrder(t *testing.T) {
	for _, l := range [][]api.Stamp{
		{{Time: 3, Rep: 1}, {Time: 5, Rep: 1}, {Time: 5, Rep: 2}, {}},
		{{Time: 1}, {Time: 2}, {Time: 3}, {Time: 3}},
		{{Time: 7, Rep: 7}, {Time: 7, Rep: 0}, {Time: 6, Rep: 7}, {Time: 1, Rep: 3}},
		{{Time: -3}, {Time: -1, Rep: 4}, {Time: -1, Rep: -9}, {Time: math.MinInt64}},
	} {
		sorted := slices.SortedFunc(slices.Values(l), Compare)
		want := sorted[len(sorted)-1]
		for i := range l {
			for j := range l {
				l[i], l[j] = l[j], l[i]
				if got := Max(l...); got != want {
					t.Errorf("Max(%v): %v; want %v", l, got, want)
				}
			}
		}
	}
	if got, want := Max(rising()...), (api.Stamp{Time: math.MaxInt64, Rep: math.MaxInt}); got != want {
		t.Errorf("Max of all: %v; want %v", got, want)
	}
}

func TestMaxLeavesWhatIsHandedIn(t *testing.T) {
	l := []api.Stamp{{Time: 3}, {Time: 9, Rep: 1}, {Time: 1}, {Time: 9}}
	was := slices.Clone(l)
	Max(l...)
	if !slices.Equal(l, was) {
		t.Errorf("Max made %v of %v", l, was)
	}
}

// P3.2: a stamp as bytes, and back.

func TestPut(t *testing.T) {
	for _, x := range []struct {
		s    api.Stamp
		want string
	}{
		{api.Stamp{}, "\x00\x00"},
		{api.Stamp{Time: 5, Rep: 2}, "\x0a\x04"},
		{api.Stamp{Time: 1, Rep: 7}, "\x02\x0e"},
		{api.Stamp{Time: 63, Rep: 1}, "\x7e\x02"},
		{api.Stamp{Time: 64, Rep: 1}, "\x80\x01\x02"},
		{api.Stamp{Time: top, Rep: 7}, "\x80\x80\x80\x80\x08\x0e"},
		{api.Stamp{Time: -1, Rep: -1}, "\x01\x01"},
		{api.Stamp{Time: 0, Rep: 8}, "\x00\x10"},
		{api.Stamp{Time: math.MinInt64, Rep: 64}, strings.Repeat("\xff", 9) + "\x01\x80\x01"},
	} {
		if got := Put(x.s); got != x.want {
			t.Errorf("Put(%v): %q; want %q", x.s, got, x.want)
		}
	}
}

func TestPutOfAnyNumbers(t *testing.T) {
	for _, s := range rising() {
		if got, want := Put(s), put(s); got != want {
			t.Errorf("Put(%v): %q; want %q", s, got, want)
		}
	}
}

func wantTaken(t *testing.T, b string, want api.Stamp, rest string, e api.Errno) {
	t.Helper()
	got, gotRest, gotE := Take(b)
	if got != want || gotRest != rest || gotE != e {
		t.Errorf("Take(%q): %v, %q, %d; want %v, %q, %d", b, got, gotRest, gotE, want, rest, e)
	}
}

func TestTakeHasTheStampAndWhatIsBehind(t *testing.T) {
	wantTaken(t, "\x0a\x04ab", api.Stamp{Time: 5, Rep: 2}, "ab", api.OK)
	wantTaken(t, "\x00\x00", api.Stamp{}, "", api.OK)
	for _, s := range good() {
		for _, tail := range tails {
			wantTaken(t, put(s)+tail, s, tail, api.OK)
		}
	}
}

func TestTakeOfWhatMayNotBe(t *testing.T) {
	for _, s := range bad() {
		for _, tail := range tails {
			wantTaken(t, put(s)+tail, api.Stamp{}, "", api.ErrForm)
		}
	}
}

func TestTakeOfRepsThatAreNoInts(t *testing.T) {
	for _, rep := range []int64{1 << 32, 1<<32 + 1, -1 << 32, 1 << 62, math.MinInt64, math.MaxInt64} {
		wantTaken(t, pack.Int(5)+pack.Int(rep), api.Stamp{}, "", api.ErrForm)
		wantTaken(t, pack.Int(0)+pack.Int(rep), api.Stamp{}, "", api.ErrForm)
	}
}

func TestTakeOfBytesThatAreNoStamp(t *testing.T) {
	ones := strings.Repeat("\xff", 9)
	for _, b := range []string{
		"", "\x00", "\x02", "\x0a", "\x80", "\xff", "\x80\x01", "\x0a\x80", "\x80\x80\x80\x80\x08", // cut
		"\x80\x00\x00", "\x8a\x00\x04", "\x0a\x84\x00", "\x0a\x80\x00", "\xfe\x80\x00\x02", // numbers in a byte too many
		ones + "\x02\x04", ones + "\x81\x01\x04", "\x0a" + ones + "\x02", "\x0a" + ones + "\x80\x01", // numbers of more than 64 bits
		"ab", "\x01\x00", "\x00\x01", "\x00\x02", "\x02\x01", "\x02\x10", // stamps that may not be
	} {
		wantTaken(t, b, api.Stamp{}, "", api.ErrForm)
	}
	for _, s := range good() {
		b := put(s)
		for i := range len(b) {
			wantTaken(t, b[:i], api.Stamp{}, "", api.ErrForm)
		}
	}
}

// P3.3: one order; the next one is between its time's and all above; what may be is taken as it was put.

func TestStampsAreInOneOrder(t *testing.T) {
	l := rising()
	for i, a := range l {
		if Compare(a, a) != 0 {
			t.Fatalf("%v isn't itself", a)
		}
		for j, b := range l {
			if Compare(a, b) != -Compare(b, a) || Compare(a, b) == 0 && i != j {
				t.Fatalf("%v and %v: %d, %d", a, b, Compare(a, b), Compare(b, a))
			}
		}
	}
	mixed := slices.Clone(l)
	for i := range mixed {
		j := i * 7919 % len(mixed)
		mixed[i], mixed[j] = mixed[j], mixed[i]
	}
	slices.SortFunc(mixed, Compare)
	if !slices.Equal(mixed, l) {
		t.Errorf("sorted, they stand in another order: %v", mixed)
	}
}

func TestNextIsAboveAllOfItsTimeAndBelow(t *testing.T) {
	if s, _ := Next(4, 2); Compare(s, api.Stamp{Time: 5, Rep: 1}) != 1 {
		t.Errorf("Next(4, 2): %v, which isn't above time 5 of replica 1", s)
	}
	for _, x := range times {
		for rep := range api.MaxReps {
			s, e := Next(x.time, rep)
			if e != api.OK {
				continue
			}
			if !May(s) || s == (api.Stamp{}) {
				t.Errorf("Next(%d, %d): %v, which may not be", x.time, rep, s)
			}
			for _, other := range rising() {
				if other.Time <= x.time && Compare(s, other) != 1 {
					t.Errorf("Next(%d, %d): %v, which isn't above %v", x.time, rep, s, other)
				}
				if other.Time > x.time+1 && Compare(s, other) != -1 {
					t.Errorf("Next(%d, %d): %v, which isn't below %v", x.time, rep, s, other)
				}
			}
		}
	}
}

func TestNextOfTheGreatestIsAboveAll(t *testing.T) {
	l := []api.Stamp{{}, {Time: 3, Rep: 7}, {Time: 8, Rep: 6}, {Time: 8, Rep: 1}, {Time: 2}}
	for n := range len(l) + 1 {
		s, e := Next(Max(l[:n]...).Time, 0)
		if e != api.OK {
			t.Fatalf("%v: %d", l[:n], e)
		}
		for _, other := range l[:n] {
			if Compare(s, other) != 1 {
				t.Errorf("%v isn't above %v", s, other)
			}
		}
	}
}

func TestWhatMayBeIsTakenAsItWasPut(t *testing.T) {
	for _, s := range rising() {
		for _, tail := range tails {
			got, rest, e := Take(Put(s) + tail)
			if May(s) && (got != s || rest != tail || e != api.OK) {
				t.Errorf("Take(Put(%v) and %q): %v, %q, %d", s, tail, got, rest, e)
			}
			if !May(s) && (got != api.Stamp{} || rest != "" || e != api.ErrForm) {
				t.Errorf("Take(Put(%v) and %q): %v, %q, %d", s, tail, got, rest, e)
			}
		}
	}
}

func TestStampsPutInTurnAreTakenInTurn(t *testing.T) {
	var b strings.Builder
	for _, s := range good() {
		b.WriteString(Put(s))
	}
	rest := b.String()
	for _, want := range good() {
		s, more, e := Take(rest)
		if s != want || e != api.OK {
			t.Fatalf("%v, %d; want %v", s, e, want)
		}
		rest = more
	}
	if rest != "" {
		t.Errorf("%q is left", rest)
	}
}

// P1: whatever comes, each call ends, and none panics.

func FuzzTake(f *testing.F) {
	for _, s := range rising() {
		f.Add(Put(s) + "ab")
	}
	for _, tail := range tails {
		f.Add(tail)
	}
	f.Fuzz(func(t *testing.T, b string) {
		s, rest, e := Take(b)
		if e != api.OK {
			if s != (api.Stamp{}) || rest != "" || e != api.ErrForm {
				t.Fatalf("Take(%q): %v, %q, %d", b, s, rest, e)
			}
			return
		}
		if !May(s) || Put(s)+rest != b {
			t.Fatalf("Take(%q): %v, %q", b, s, rest)
		}
	})
}

func FuzzCompare(f *testing.F) {
	f.Add(int64(5), 1, int64(5), 2)
	f.Add(int64(math.MinInt64), math.MaxInt, int64(math.MaxInt64), math.MinInt)
	f.Fuzz(func(t *testing.T, timeA int64, repA int, timeB int64, repB int) {
		a, b := api.Stamp{Time: timeA, Rep: repA}, api.Stamp{Time: timeB, Rep: repB}
		order := Compare(a, b)
		if order != -Compare(b, a) || (order == 0) != (a == b) || order < -1 || order > 1 {
			t.Fatalf("%v and %v: %d, %d", a, b, order, Compare(b, a))
		}
		most := Max(a, b)
		if most != Max(b, a) || most != a && most != b || Compare(most, a) < 0 || Compare(most, b) < 0 {
			t.Fatalf("Max(%v, %v): %v", a, b, most)
		}
		if s, e := Next(timeA, repA); e == api.OK && (!May(s) || s.Time != timeA+1 || s.Rep != repA) {
			t.Fatalf("Next(%d, %d): %v", timeA, repA, s)
		}
	})
}
