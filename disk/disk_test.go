package disk

import (
	"math"
	"math/rand/v2"
	"strings"
	"testing"

	"thimble/api"
)

// plain is a disk as the chapter's words say it: its texts are never changed, only others are put in their places.
type plain struct {
	room      int
	snap, log string
	synced    int
}

func newPlain(room int) plain {
	if room < 0 {
		return plain{}
	}
	return plain{room: room}
}

func (p plain) free() int {
	return p.room - len(p.snap) - len(p.log)
}

func (p *plain) append(s string) api.Errno {
	if len(s) > p.free() {
		return api.ErrSpace
	}
	p.log += s
	return api.OK
}

func (p *plain) sync() api.Errno {
	p.synced = len(p.log)
	return api.OK
}

func (p *plain) change(snap string) api.Errno {
	if len(snap) > p.room {
		return api.ErrSpace
	}
	*p = plain{room: p.room, snap: snap}
	return api.OK
}

func (p *plain) crash(keep int) api.Errno {
	firm, loose := p.log[:p.synced], p.log[p.synced:]
	switch {
	case keep < 0:
		loose = ""
	case keep < len(loose):
		loose = loose[:keep]
	}
	p.log, p.synced = firm+loose, len(firm)+len(loose)
	return api.OK
}

// deed is what may be done to a disk, and the same to a plain one.
type deed struct {
	name    string
	disk    func(d *Disk) api.Errno
	plain   func(p *plain) api.Errno
	changes bool // the snapshot, and so also what was synced
}

func appends(s string) deed {
	return deed{"Append " + s, func(d *Disk) api.Errno { return d.Append(s) }, func(p *plain) api.Errno { return p.append(s) }, false}
}

func syncs() deed {
	return deed{"Sync", func(d *Disk) api.Errno { d.Sync(); return api.OK }, (*plain).sync, false}
}

func switches(snap string) deed {
	return deed{"Switch " + snap, func(d *Disk) api.Errno { return d.Switch(snap) }, func(p *plain) api.Errno { return p.change(snap) }, true}
}

func crashes(keep int) deed {
	return deed{"Crash", func(d *Disk) api.Errno { d.Crash(keep); return api.OK }, func(p *plain) api.Errno { return p.crash(keep) }, false}
}

// deeds are some of each kind, for disks with room for a few bytes.
func deeds() []deed {
	return []deed{
		appends(""), appends("a"), appends("bcd"), appends("0123456789"),
		syncs(),
		switches(""), switches("ef"), switches("ghijklm"), switches("ABCDEFGHIJKLM"),
		crashes(-1), crashes(0), crashes(1), crashes(4), crashes(math.MaxInt),
	}
}

// laid is a disk with a snapshot, and a log of two parts, the first of which is synced.
func laid(t *testing.T, room int, snap, firm, loose string) *Disk {
	t.Helper()
	d := New(room)
	wantOK(t, d.Switch(snap))
	wantOK(t, d.Append(firm))
	d.Sync()
	wantOK(t, d.Append(loose))
	wantDisk(t, d, plain{room, snap, firm + loose, len(firm)})
	return d
}

func wantErr(t *testing.T, got, want api.Errno) {
	t.Helper()
	if got != want {
		t.Fatalf("error %d; want %d", got, want)
	}
}

func wantOK(t *testing.T, e api.Errno) {
	t.Helper()
	wantErr(t, e, api.OK)
}

// wantDisk asks a disk for all that it tells, twice: to ask changes nothing.
func wantDisk(t *testing.T, d *Disk, p plain) {
	t.Helper()
	if d == nil {
		t.Fatal("no disk")
	}
	for range 2 {
		snap, log, synced, free := d.Snap(), d.Log(), d.Synced(), d.Free()
		if snap != p.snap || log != p.log || synced != p.synced || free != p.free() {
			t.Fatalf("%.80q, %.80q, %d, free %d; want %.80q, %.80q, %d, free %d", snap, log, synced, free, p.snap, p.log, p.synced, p.free())
		}
	}
}

// P7.1: room, what is laid, synced, switched.

func TestNewIsEmpty(t *testing.T) {
	for _, room := range []int{0, 1, 2, 200, 65536, 400000, math.MaxInt32, math.MaxInt - 1, math.MaxInt} {
		wantDisk(t, New(room), plain{room: room})
	}
	for _, room := range []int{-1, -2, -200, math.MinInt32, math.MinInt + 1, math.MinInt} {
		wantDisk(t, New(room), plain{})
	}
}

func TestADiskWithoutRoomTakesOnlyNothing(t *testing.T) {
	for _, room := range []int{0, -1, -100, math.MinInt} {
		d := New(room)
		wantErr(t, d.Append("a"), api.ErrSpace)
		wantErr(t, d.Switch("a"), api.ErrSpace)
		wantDisk(t, d, plain{})
		wantOK(t, d.Append(""))
		d.Sync()
		wantOK(t, d.Switch(""))
		d.Crash(3)
		wantDisk(t, d, plain{})
	}
}

func TestNewDisksShareNothing(t *testing.T) {
	a, b := New(10), New(10)
	wantOK(t, a.Append("ab"))
	a.Sync()
	wantOK(t, b.Switch("xyz"))
	wantDisk(t, a, plain{10, "", "ab", 2})
	wantDisk(t, b, plain{10, "xyz", "", 0})
}

func TestAppendLaysBehind(t *testing.T) {
	d := New(1000)
	p := newPlain(1000)
	for _, s := range []string{"a", "", "bc", "\x00", "\xff\xfe", "a", "gr\xc3\xbc\xc3\x9fe", "\n", strings.Repeat("x", 500)} {
		wantOK(t, d.Append(s))
		p.log += s
		wantDisk(t, d, p)
	}
}

func TestAppendOfWhatFitsJustSo(t *testing.T) {
	for _, room := range []int{0, 1, 2, 7, 300} {
		d := New(room)
		wantOK(t, d.Append(strings.Repeat("x", room)))
		wantDisk(t, d, plain{room, "", strings.Repeat("x", room), 0})
	}
	d := laid(t, 10, "sna", "fir", "l")
	wantOK(t, d.Append("end"))
	wantDisk(t, d, plain{10, "sna", "firlend", 3})
	if d.Free() != 0 {
		t.Errorf("free %d", d.Free())
	}
}

func TestAppendOfWhatIsTooLongChangesNothing(t *testing.T) {
	for _, room := range []int{0, 1, 2, 7, 300} {
		for _, more := range []int{1, 2, 1000} {
			d := New(room)
			wantErr(t, d.Append(strings.Repeat("x", room+more)), api.ErrSpace)
			wantDisk(t, d, plain{room: room})
		}
	}
	d := laid(t, 10, "sna", "fir", "l")
	// The second one would fit but for the snapshot, the third one but for the log.
	for _, s := range []string{"four", "sixsix", "sevenss", "ten bytes.", "eleven byte", strings.Repeat("x", 1000)} {
		wantErr(t, d.Append(s), api.ErrSpace)
		wantDisk(t, d, plain{10, "sna", "firl", 3})
	}
	wantOK(t, d.Append("end"))
	wantDisk(t, d, plain{10, "sna", "firlend", 3})
}

func TestAppendToAFullDisk(t *testing.T) {
	for _, d := range []*Disk{laid(t, 6, "", "ab", "cdef"), laid(t, 6, "abcdef", "", ""), laid(t, 6, "ab", "cd", "ef"), laid(t, 6, "ab", "", "cdef")} {
		p := plain{6, d.Snap(), d.Log(), d.Synced()}
		wantOK(t, d.Append(""))
		wantDisk(t, d, p)
		wantErr(t, d.Append("x"), api.ErrSpace)
		wantDisk(t, d, p)
		wantOK(t, d.Append(""))
		wantDisk(t, d, p)
	}
}

func TestAppendSyncsNothing(t *testing.T) {
	d := New(20)
	wantOK(t, d.Append("ab"))
	wantDisk(t, d, plain{20, "", "ab", 0})
	d.Sync()
	wantOK(t, d.Append("cde"))
	wantOK(t, d.Append(""))
	wantDisk(t, d, plain{20, "", "abcde", 2})
}

func TestSync(t *testing.T) {
	d := New(20)
	d.Sync()
	wantDisk(t, d, plain{room: 20})
	wantOK(t, d.Append("ab"))
	for range 2 {
		d.Sync()
		wantDisk(t, d, plain{20, "", "ab", 2})
	}
	wantOK(t, d.Append("cde"))
	wantDisk(t, d, plain{20, "", "abcde", 2})
	for range 2 {
		d.Sync()
		wantDisk(t, d, plain{20, "", "abcde", 5})
	}
}

func TestSyncWithASnapshotCountsTheLogAlone(t *testing.T) {
	d := laid(t, 20, "snap", "ab", "cde")
	d.Sync()
	wantDisk(t, d, plain{20, "snap", "abcde", 5})
	d = laid(t, 20, "snap", "", "")
	d.Sync()
	wantDisk(t, d, plain{20, "snap", "", 0})
}

func TestSwitchPutsTheSnapshotInThePlaceOfBoth(t *testing.T) {
	for _, snap := range []string{"", "x", "\x00\xff", "new snap", "old", "newsnapof15byte", "and this has 16.", "this one has 19 by.", "and this has 20 byte"} {
		for _, d := range []*Disk{
			New(20), laid(t, 20, "old", "", ""), laid(t, 20, "", "synced", ""), laid(t, 20, "", "", "loose"), laid(t, 20, "old", "synced", "loose"),
			// All of the room is used.
			laid(t, 20, "old", "synced, and", " loose"), laid(t, 20, "", "these are 20 bytes..", ""), laid(t, 20, "20 bytes of snapshot", "", ""),
		} {
			wantOK(t, d.Switch(snap))
			wantDisk(t, d, plain{20, snap, "", 0})
		}
	}
}

func TestSwitchToWhatIsTooLongChangesNothing(t *testing.T) {
	for _, d := range []*Disk{
		New(6), New(0), New(-1), laid(t, 6, "old", "", ""), laid(t, 6, "", "ab", "c"), laid(t, 6, "o", "ab", "c"), laid(t, 6, "o", "ab", "cde"), laid(t, 6, "abcdef", "", ""),
	} {
		room := d.Free() + len(d.Snap()) + len(d.Log())
		p := plain{room, d.Snap(), d.Log(), d.Synced()}
		for _, more := range []int{1, 2, 1000} {
			wantErr(t, d.Switch(strings.Repeat("x", room+more)), api.ErrSpace)
			wantDisk(t, d, p)
		}
		wantOK(t, d.Switch(strings.Repeat("x", room)))
		wantDisk(t, d, plain{room, strings.Repeat("x", room), "", 0})
	}
}

func TestSwitchGivesTheRoomBack(t *testing.T) {
	d := laid(t, 10, "snap", "abc", "def")
	wantOK(t, d.Switch("s"))
	wantOK(t, d.Append("abcdefghi"))
	wantDisk(t, d, plain{10, "s", "abcdefghi", 0})
	wantErr(t, d.Append("j"), api.ErrSpace)
	wantOK(t, d.Switch(""))
	wantOK(t, d.Append("abcdefghij"))
	wantDisk(t, d, plain{10, "", "abcdefghij", 0})
}

func TestWhatIsBehindASwitchIsNotSynced(t *testing.T) {
	d := laid(t, 30, "old", "synced", "loose")
	wantOK(t, d.Switch("new"))
	wantOK(t, d.Append("more"))
	wantDisk(t, d, plain{30, "new", "more", 0})
	d.Crash(0)
	wantDisk(t, d, plain{30, "new", "", 0})
}

func TestFreeBehindEachDeed(t *testing.T) {
	d := New(20)
	for _, x := range []struct {
		name string
		do   func()
		free int
	}{
		{"New", func() {}, 20},
		{"Append", func() { d.Append("abc") }, 17},
		{"Append of nothing", func() { d.Append("") }, 17},
		{"Sync", func() { d.Sync() }, 17},
		{"Append", func() { d.Append("defgh") }, 12},
		{"Append of too much", func() { d.Append("13 bytes here") }, 12},
		{"Copy", func() { d = d.Copy() }, 12},
		{"Crash", func() { d.Crash(2) }, 15},
		{"Crash", func() { d.Crash(-1) }, 15},
		{"Switch", func() { d.Switch("snap") }, 16},
		{"Append", func() { d.Append("abcdef") }, 10},
		{"Switch to too much", func() { d.Switch(strings.Repeat("x", 21)) }, 10},
		{"Crash", func() { d.Crash(0) }, 16},
		{"Append just so", func() { d.Append("abcdefghijklmnop") }, 0},
		{"Sync", func() { d.Sync() }, 0},
		{"Crash", func() { d.Crash(0) }, 0},
		{"Switch just so", func() { d.Switch("20 bytes of snapshot") }, 0},
		{"Switch to nothing", func() { d.Switch("") }, 20},
	} {
		x.do()
		if d.Free() != x.free {
			t.Errorf("behind %q: free %d; want %d", x.name, d.Free(), x.free)
		}
	}
}

// P7.2: what stays in a crash, what is told, and copies.

func TestTheExample(t *testing.T) {
	d := New(100)
	wantOK(t, d.Append("ab"))
	d.Sync()
	wantOK(t, d.Append("cd"))
	d.Crash(1)
	wantDisk(t, d, plain{100, "", "abc", 3})
}

func TestCrashKeepsWhatIsSyncedAndSoManyBytes(t *testing.T) {
	for _, x := range []struct {
		keep int
		log  string
	}{
		{math.MinInt, "firm"}, {math.MinInt + 1, "firm"}, {-100, "firm"}, {-5, "firm"}, {-4, "firm"}, {-1, "firm"}, {0, "firm"},
		{1, "firml"}, {2, "firmlo"}, {4, "firmloos"}, {5, "firmloose"}, {6, "firmloose"}, {9, "firmloose"}, {10, "firmloose"},
		{1000, "firmloose"}, {math.MaxInt - 5, "firmloose"}, {math.MaxInt - 4, "firmloose"}, {math.MaxInt - 3, "firmloose"}, {math.MaxInt, "firmloose"},
	} {
		d := laid(t, 30, "snap", "firm", "loose")
		d.Crash(x.keep)
		wantDisk(t, d, plain{30, "snap", x.log, len(x.log)})
	}
}

func TestCrashOfALogOfWhichNothingIsSynced(t *testing.T) {
	for keep, log := range map[int]string{math.MinInt: "", -1: "", 0: "", 1: "l", 4: "loos", 5: "loose", 6: "loose", math.MaxInt: "loose"} {
		d := laid(t, 30, "", "", "loose")
		d.Crash(keep)
		wantDisk(t, d, plain{30, "", log, len(log)})
	}
}

func TestCrashOfALogOfWhichAllIsSynced(t *testing.T) {
	for _, keep := range []int{math.MinInt, -4, -1, 0, 1, 3, 4, 5, math.MaxInt} {
		d := laid(t, 30, "snap", "firm", "")
		d.Crash(keep)
		wantDisk(t, d, plain{30, "snap", "firm", 4})
	}
}

func TestCrashOfADiskWithoutALog(t *testing.T) {
	for _, keep := range []int{math.MinInt, -1, 0, 1, math.MaxInt} {
		d := New(30)
		d.Crash(keep)
		wantDisk(t, d, plain{room: 30})
		wantOK(t, d.Switch("snap"))
		d.Crash(keep)
		wantDisk(t, d, plain{30, "snap", "", 0})
	}
}

func TestCrashTwiceInTurn(t *testing.T) {
	d := laid(t, 30, "snap", "firm", "loose")
	d.Crash(2)
	for _, keep := range []int{0, 3, -1, math.MaxInt, math.MinInt} {
		// What stayed is synced, and what was lost doesn't come back.
		d.Crash(keep)
		wantDisk(t, d, plain{30, "snap", "firmlo", 6})
	}
}

func TestAppendBehindACrash(t *testing.T) {
	d := laid(t, 13, "snap", "firm", "loose")
	wantErr(t, d.Append("x"), api.ErrSpace)
	d.Crash(2)
	wantErr(t, d.Append("four"), api.ErrSpace)
	wantOK(t, d.Append("x"))
	wantDisk(t, d, plain{13, "snap", "firmlox", 6})
	wantOK(t, d.Append("yz"))
	wantDisk(t, d, plain{13, "snap", "firmloxyz", 6})
	d.Crash(1)
	wantDisk(t, d, plain{13, "snap", "firmlox", 7})
	d.Sync()
	wantDisk(t, d, plain{13, "snap", "firmlox", 7})
}

func TestWhatIsLostIsOutOfReach(t *testing.T) {
	for _, keep := range []int{-1, 0, 1, 4} {
		d := laid(t, 30, "", "firm", "loose")
		d.Crash(keep)
		if got := string(d.log[:cap(d.log)]); got != d.Log() {
			t.Errorf("behind a Crash(%d) that left %q the log reaches %q", keep, d.Log(), got)
		}
	}
}

func TestASnapshotStaysInACrash(t *testing.T) {
	for _, keep := range []int{-1, 0, 3, math.MaxInt} {
		d := laid(t, 30, "old", "firm", "loose")
		wantOK(t, d.Switch("new"))
		d.Crash(keep)
		wantDisk(t, d, plain{30, "new", "", 0})
	}
}

func TestWhatWasToldStaysAsItWas(t *testing.T) {
	d := laid(t, 30, "snap", "firm", "loose")
	snap, log := d.Snap(), d.Log()
	d.Crash(1)
	wantOK(t, d.Append("other"))
	wantOK(t, d.Switch("another"))
	wantOK(t, d.Append("FIRMLOOSE"))
	if snap != "snap" || log != "firmloose" {
		t.Errorf("%q, %q", snap, log)
	}
}

// sources are disks that may be copied, each anew.
func sources(t *testing.T) []*Disk {
	t.Helper()
	crashed := laid(t, 20, "snap", "firm", "loose")
	crashed.Crash(2)
	grown := New(20)
	for _, s := range []string{"a", "b", "c", "d", "e", "f", "g", "h", "i"} {
		wantOK(t, grown.Append(s))
	}
	return []*Disk{
		New(20), New(0), laid(t, 20, "snap", "", ""), laid(t, 20, "", "firm", ""), laid(t, 20, "", "", "loose"), laid(t, 20, "snap", "firm", "loose"), laid(t, 13, "snap", "firm", "loose"), crashed, grown,
	}
}

func TestCopyIsAlike(t *testing.T) {
	for _, d := range sources(t) {
		room := d.Free() + len(d.Snap()) + len(d.Log())
		p := plain{room, d.Snap(), d.Log(), d.Synced()}
		c := d.Copy()
		if c == d {
			t.Fatal("it is the same disk")
		}
		wantDisk(t, c, p)
		wantDisk(t, d, p)
		wantDisk(t, c.Copy(), p)
	}
}

func TestNeitherDiskChangesWithTheOther(t *testing.T) {
	for i := range sources(t) {
		for _, turned := range []bool{false, true} {
			for _, first := range deeds() {
				for _, second := range deeds() {
					d := sources(t)[i]
					p := plain{d.Free() + len(d.Snap()) + len(d.Log()), d.Snap(), d.Log(), d.Synced()}
					q := p
					c := d.Copy()
					if turned {
						d, c = c, d
					}
					first.disk(d)
					first.plain(&p)
					wantDisk(t, d, p)
					wantDisk(t, c, q)
					second.disk(c)
					second.plain(&q)
					wantDisk(t, d, p)
					wantDisk(t, c, q)
				}
			}
		}
	}
}

func TestBothDisksGoOnBehindTheSameLog(t *testing.T) {
	d := laid(t, 100, "snap", "firm", "loose")
	c := d.Copy()
	for range 10 {
		wantOK(t, d.Append("d"))
		wantOK(t, c.Append("c"))
	}
	wantDisk(t, d, plain{100, "snap", "firmloose" + strings.Repeat("d", 10), 4})
	wantDisk(t, c, plain{100, "snap", "firmloose" + strings.Repeat("c", 10), 4})
	d.Crash(7)
	wantOK(t, d.Append("D"))
	c.Crash(2)
	wantOK(t, c.Append("C"))
	wantDisk(t, d, plain{100, "snap", "firmlooseddD", 11})
	wantDisk(t, c, plain{100, "snap", "firmloC", 6})
}

func TestOfADiskThatIsNil(t *testing.T) {
	var d *Disk
	for range 2 {
		for _, s := range []string{"", "a", strings.Repeat("x", 1000)} {
			wantErr(t, d.Append(s), api.ErrSpace)
			wantErr(t, d.Switch(s), api.ErrSpace)
		}
		d.Sync()
		for _, keep := range []int{math.MinInt, -1, 0, 1, math.MaxInt} {
			d.Crash(keep)
		}
		if d.Snap() != "" || d.Log() != "" || d.Synced() != 0 || d.Free() != 0 || d.Copy() != nil {
			t.Errorf("%q, %q, %d, %d, %v", d.Snap(), d.Log(), d.Synced(), d.Free(), d.Copy())
		}
	}
}

// P7.3: what was synced stays, what stays of the rest is a begin of it, and there is never more than there is room for.

// wantKept holds a disk against what it was ahead of a deed, whatever that was.
func wantKept(t *testing.T, x deed, room int, before plain, d *Disk) {
	t.Helper()
	snap, log, synced := d.Snap(), d.Log(), d.Synced()
	if len(snap)+len(log) > max(room, 0) || d.Free() < 0 || synced < 0 || synced > len(log) {
		t.Fatalf("behind %q: %q and %q in a room of %d, free %d, %d synced", x.name, snap, log, room, d.Free(), synced)
	}
	if x.changes {
		return
	}
	if snap != before.snap || synced < before.synced || !strings.HasPrefix(log, before.log[:before.synced]) {
		t.Fatalf("behind %q: %q, %q, %d, but %q and %q were to stay", x.name, snap, log, synced, before.snap, before.log[:before.synced])
	}
	if x.name == "Crash" && (!strings.HasPrefix(before.log, log) || synced != len(log)) {
		t.Fatalf("behind a crash %q, %d, which is no begin of %q", log, synced, before.log)
	}
	if x.name != "Crash" && !strings.HasPrefix(log, before.log) {
		t.Fatalf("behind %q: %q, without %q", x.name, log, before.log)
	}
}

// wantDone does a deed to both, and holds them against each other.
func wantDone(t *testing.T, x deed, room int, d *Disk, p *plain) {
	t.Helper()
	before := *p
	got, want := x.disk(d), x.plain(p)
	if got != want {
		t.Fatalf("%.80q of %.80q, %.80q: error %d; want %d", x.name, before.snap, before.log, got, want)
	}
	wantKept(t, x, room, before, d)
	wantDisk(t, d, *p)
}

// wantAllOrders does each deed to a copy, and so on, so many times; the copied one stays as it is.
func wantAllOrders(t *testing.T, many, room int, d *Disk, p plain) {
	t.Helper()
	if many == 0 {
		return
	}
	for _, x := range deeds() {
		c, q := d.Copy(), p
		wantDone(t, x, room, c, &q)
		wantAllOrders(t, many-1, room, c, q)
		wantDisk(t, d, p)
	}
}

func TestAllOrdersOfFewDeeds(t *testing.T) {
	for _, room := range []int{-1, 0, 1, 7, 12} {
		wantAllOrders(t, 4, room, New(room), newPlain(room))
	}
}

func TestAllOrdersOfFewDeedsWithoutCopies(t *testing.T) {
	all := deeds()
	for _, room := range []int{7, 12} {
		for i := range len(all) * len(all) * len(all) * len(all) {
			d, p := New(room), newPlain(room)
			for range 4 {
				wantDone(t, all[i%len(all)], room, d, &p)
				i /= len(all)
			}
		}
	}
}

func TestLongRowsOfDeeds(t *testing.T) {
	chance := rand.New(rand.NewPCG(7, 3))
	for _, room := range []int{0, 5, 50, 500, 5000} {
		for range 30 {
			d, p := New(room), newPlain(room)
			for range 300 {
				text := strings.Repeat(string(rune('a'+chance.IntN(26))), chance.IntN(room/6+2))
				var x deed
				switch n := chance.IntN(40); {
				case n < 25:
					x = appends(text)
				case n < 31:
					x = syncs()
				case n < 38:
					x = crashes(chance.IntN(2*len(text)+4) - 2)
				case n < 39:
					x = switches(text)
				default:
					x = switches(strings.Repeat("x", room+1))
				}
				wantDone(t, x, room, d, &p)
			}
		}
	}
}

func TestWhatWasSyncedStaysWhateverCrashes(t *testing.T) {
	d := New(1000)
	firm := ""
	for i, s := range []string{"one", "two", "", "three", "four", "five"} {
		wantOK(t, d.Append(s))
		d.Sync()
		firm += s
		for _, keep := range []int{-1, 0, 1, 2} {
			wantOK(t, d.Append("loose"))
			d.Crash(keep)
			firm += "loose"[:max(keep, 0)]
			wantDisk(t, d, plain{1000, "", firm, len(firm)})
		}
		d.Crash(i)
		wantDisk(t, d, plain{1000, "", firm, len(firm)})
	}
}

// P1: whatever comes, each call ends, and none panics.

func FuzzDisk(f *testing.F) {
	f.Add(12, "abcdef", []byte{0, 2, 1, 0, 0, 2, 3, 1})
	f.Add(100, "snapshot", []byte{0, 5, 1, 0, 0, 3, 2, 4, 0, 7, 3, 255, 2, 0, 3, 0})
	f.Add(0, "", []byte{0, 0, 1, 1, 2, 2, 3, 3})
	f.Add(-5, "x", []byte{0, 1, 2, 1, 3, 1})
	f.Add(math.MaxInt, "\x00\xff", []byte{0, 9, 3, 4, 0, 9, 1, 0, 3, 128})
	f.Fuzz(func(t *testing.T, room int, text string, b []byte) {
		if len(text) > 300 || len(b) > 300 {
			return
		}
		d, p := New(room), newPlain(room)
		for len(b) > 1 {
			part := text[:min(int(b[1]), len(text))]
			x := [...]deed{appends(part), syncs(), switches(part), crashes(int(int8(b[1])))}[b[0]%4]
			c, q := d.Copy(), p
			wantDone(t, x, room, d, &p)
			wantDisk(t, c, q)
			b = b[2:]
		}
		d.Crash(room)
		p.crash(room)
		wantDisk(t, d, p)
	})
}
