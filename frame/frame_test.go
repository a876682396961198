package frame

import (
	"encoding/binary"
	"hash/crc32"
	"math"
	"slices"
	"strings"
	"testing"

	"thimble/api"
)

// tails are what may stand behind a record, none of which begins with one.
var tails = []string{"", "\x00", "\x01", "\x7f", "\x80", "\xff", "ab", "\x00\x00\x00\x00\x00", "\x02ab", strings.Repeat("\x00", 20), strings.Repeat("\xff", 20), strings.Repeat("z", 200)}

// mixed is a text of so many bytes, of which no two that are neighbours are alike.
func mixed(n int) string {
	b := make([]byte, n)
	for i := range b {
		b[i] = byte(i*i*7 + i*151 + i/256)
		if i > 0 && b[i] == b[i-1] {
			b[i]++
		}
	}
	return string(b)
}

// short are bodies of few bytes, of both sides of where the length needs one byte more, and such as look like records.
func short() []string {
	return []string{
		"", "a", "ab", "abc", "\x00", "\xff", "\x80\x00", "\x00\x00\x00\x00", "\x00\x41\xd9\x12\xff", "gr\xc3\xbc\xc3\x9fe",
		mixed(7), mixed(126), mixed(127), mixed(128), mixed(129), mixed(300), strings.Repeat("\x00", 127), strings.Repeat("\xff", 128),
		put("ab"), put(put("")), put("a") + put("b"), put(mixed(127))[:60],
	}
}

// long are bodies of which the length is at its edges, or needs three bytes.
func long() []string {
	return []string{mixed(16383), mixed(16384), mixed(65535), mixed(65536), strings.Repeat("\x00", 65535), strings.Repeat("\xff", 65536)}
}

// put is a body's record, as P6.1's words say it, however long the body is.
func put(body string) string {
	text := string(binary.AppendUvarint(nil, uint64(len(body)))) + body
	return string(binary.BigEndian.AppendUint32([]byte(text), crc32.ChecksumIEEE([]byte(text))))
}

// puts are records, one behind the other.
func puts(bodies ...string) string {
	var b strings.Builder
	for _, body := range bodies {
		b.WriteString(put(body))
	}
	return b.String()
}

// with is a text of which one byte is another one.
func with(s string, at int, b byte) string {
	return s[:at] + string([]byte{b}) + s[at+1:]
}

// lengthBytes is how many bytes the length of so many bytes has.
func lengthBytes(n int) int {
	return len(binary.AppendUvarint(nil, uint64(n)))
}

// take is the record with which a string begins, looked for among those of all bodies that there might be.
func take(s string) (body, rest string, is bool) {
	for n := 0; n <= len(s) && n <= 65536; n++ {
		from := lengthBytes(n)
		if from+n > len(s) {
			break
		}
		if record := put(s[from : from+n]); strings.HasPrefix(s, record) {
			return s[from : from+n], s[len(record):], true
		}
	}
	return "", "", false
}

// all are the records with which a string begins, looked for as take does it.
func all(s string) ([]string, int) {
	var bodies []string
	rest := s
	for {
		body, more, is := take(rest)
		if !is {
			return bodies, len(s) - len(rest)
		}
		bodies, rest = append(bodies, body), more
	}
}

func wantPut(t *testing.T, body, want string, e api.Errno) {
	t.Helper()
	if got, gotE := Put(body); got != want || gotE != e {
		t.Errorf("Put of %d bytes: %.80q, %d; want %.80q, %d", len(body), got, gotE, want, e)
	}
}

func wantTaken(t *testing.T, s, body, rest string, e api.Errno) {
	t.Helper()
	gotBody, gotRest, gotE := Take(s)
	if gotBody != body || gotRest != rest || gotE != e {
		t.Errorf("Take(%.80q): %.80q, %.80q, %d; want %.80q, %.80q, %d", s, gotBody, gotRest, gotE, body, rest, e)
	}
}

func wantNone(t *testing.T, s string) {
	t.Helper()
	wantTaken(t, s, "", "", api.ErrForm)
}

func wantAll(t *testing.T, s string, bodies []string, n int) {
	t.Helper()
	got, gotN := All(s)
	if !slices.Equal(got, bodies) || gotN != n {
		t.Errorf("All of %d bytes: %.200q, %d; want %.200q, %d", len(s), got, gotN, bodies, n)
	}
}

// P6.1: a body's record, and the body of a record.

func TestPutHasTheBytes(t *testing.T) {
	for _, x := range []struct{ body, want string }{
		{"", "\x00" + "\xd2\x02\xef\x8d"},
		{"\x00\x00\x00", "\x03\x00\x00\x00" + "\x33\xf1\x70\xf2"},
		{"ab", "\x02ab" + "\x23\x9f\x57\xee"},
	} {
		wantPut(t, x.body, x.want, api.OK)
	}
}

func TestPutHasTheLengthTheBodyAndTheSumOfBoth(t *testing.T) {
	for _, x := range []struct {
		body, length string
	}{
		{"", "\x00"},
		{"a", "\x01"},
		{mixed(127), "\x7f"},
		{mixed(128), "\x80\x01"},
		{mixed(16383), "\xff\x7f"},
		{mixed(16384), "\x80\x80\x01"},
		{mixed(65535), "\xff\xff\x03"},
		{mixed(65536), "\x80\x80\x04"},
	} {
		sum := crc32.ChecksumIEEE([]byte(x.length + x.body))
		wantPut(t, x.body, x.length+x.body+string([]byte{byte(sum >> 24), byte(sum >> 16 & 255), byte(sum >> 8 & 255), byte(sum & 255)}), api.OK)
	}
	for _, body := range append(short(), long()...) {
		wantPut(t, body, put(body), api.OK)
	}
}

func TestPutHasTheHighestByteOfTheSumFirst(t *testing.T) {
	record, _ := Put("ab")
	sum := record[3:]
	for i := range 4 {
		for j := range i {
			if sum[i] == sum[j] {
				t.Fatalf("%q isn't four unlike bytes", sum)
			}
		}
	}
	if n := crc32.ChecksumIEEE([]byte("\x02ab")); sum[0] != byte(n/(1<<24)) || sum[1] != byte(n/(1<<16)%256) || sum[2] != byte(n/256%256) || sum[3] != byte(n%256) {
		t.Errorf("%q, but the sum is %08x", sum, n)
	}
}

func TestPutOfTooManyBytes(t *testing.T) {
	if Most != 65536 {
		t.Errorf("Most: %d", Most)
	}
	for _, n := range []int{65537, 65538, 65536 + 128, 2 * 65536, 1 << 21, 1<<21 + 1} {
		wantPut(t, mixed(n), "", api.ErrBig)
	}
}

func TestTakeHasTheBodyAndWhatIsBehind(t *testing.T) {
	wantTaken(t, "\x02ab\x23\x9f\x57\xee", "ab", "", api.OK)
	wantTaken(t, "\x00\xd2\x02\xef\x8drest", "", "rest", api.OK)
	for _, body := range append(short(), long()...) {
		for _, tail := range append(tails, put(""), put("a"), put(body), put(body)[:5], puts("b", "", body)) {
			wantTaken(t, put(body)+tail, body, tail, api.OK)
		}
	}
}

func TestTakeOfWhatIsCut(t *testing.T) {
	wantNone(t, "")
	for _, body := range append(short(), long()...) {
		record := put(body)
		for i := range len(record) {
			wantNone(t, record[:i])
		}
	}
}

func TestTakeOfWhatLacksItsBegin(t *testing.T) {
	// Not the bodies that themselves are records.
	for _, body := range []string{"", "a", "ab", mixed(7), mixed(127), mixed(128), mixed(300)} {
		record := put(body)
		for i := 1; i <= len(record); i++ {
			wantNone(t, record[i:])
		}
		for _, ahead := range []string{"\x00", "\x01", "\x80", "a", "\xff\xff"} {
			wantNone(t, ahead+record)
		}
	}
}

// summed is a text with its sum, whatever it is.
func summed(text string) string {
	return string(binary.BigEndian.AppendUint32([]byte(text), crc32.ChecksumIEEE([]byte(text))))
}

func TestTakeOfALengthThatIsNotTheShortest(t *testing.T) {
	for _, x := range []struct{ length, body string }{
		{"\x80\x00", ""},
		{"\x80\x80\x00", ""},
		{"\x82\x00", "ab"},
		{"\x82\x80\x00", "ab"},
		{"\x82\x80\x80\x80\x80\x80\x80\x80\x80\x00", "ab"},
		{"\xff\x00", mixed(127)},
		{"\x80\x81\x00", mixed(128)},
		{"\x80\x80\x84\x00", mixed(65536)},
	} {
		// With the sum of these bytes, and with that of the length in its shortest form.
		sum := put(x.body)[len(put(x.body))-4:]
		for _, tail := range tails {
			wantNone(t, summed(x.length+x.body)+tail)
			wantNone(t, x.length+x.body+sum+tail)
		}
	}
}

func TestTakeOfALengthAboveTheMost(t *testing.T) {
	for _, n := range []int{65537, 65538, 65536 + 128, 2 * 65536, 1 << 21, 1<<21 + 1} {
		for _, tail := range tails {
			wantNone(t, put(mixed(n))+tail)
		}
	}
	for _, n := range []uint64{65537, 1 << 31, 1 << 32, 1<<32 + 2, 1 << 63, 1<<63 + 2, math.MaxUint64 - 1, math.MaxUint64} {
		length := string(binary.AppendUvarint(nil, n))
		wantNone(t, summed(length))
		wantNone(t, summed(length+"ab"))
	}
	ones := strings.Repeat("\xff", 9)
	for _, length := range []string{ones + "\x02", ones + "\x81\x01", strings.Repeat("\x80", 9) + "\x02", ones + ones} {
		wantNone(t, summed(length))
		wantNone(t, summed(length+"ab"))
	}
}

func TestTakeOfALengthThatSaysMoreThanThereIs(t *testing.T) {
	for _, body := range []string{"", "a", "ab", mixed(126), mixed(127), mixed(128), mixed(300)} {
		for _, more := range []int{1, 2, 3, 4, 5, 6, 100, 1000, 65536 - len(body)} {
			length := string(binary.AppendUvarint(nil, uint64(len(body)+more)))
			wantNone(t, length+body)
			wantNone(t, summed(length+body))
			wantNone(t, length+put(body)[lengthBytes(len(body)):])
		}
	}
}

func TestTakeOfALengthThatSaysLess(t *testing.T) {
	for _, body := range []string{"a", "ab", mixed(127), mixed(128), mixed(300), mixed(65536)} {
		for _, less := range []int{1, 2, len(body) / 2, len(body)} {
			if less == 0 || less > len(body) {
				continue
			}
			length := string(binary.AppendUvarint(nil, uint64(len(body)-less)))
			wantNone(t, summed(length+body))
			wantNone(t, length+put(body)[lengthBytes(len(body)):])
		}
	}
}

func TestTakeOfOtherSums(t *testing.T) {
	for _, body := range []string{"", "a", "ab", mixed(127), mixed(128)} {
		record := put(body)
		text, sum := record[:len(record)-4], record[len(record)-4:]
		alone := string(binary.BigEndian.AppendUint32(nil, crc32.ChecksumIEEE([]byte(body))))
		turned := []byte(sum)
		slices.Reverse(turned)
		wantNone(t, text)
		for _, other := range []string{alone, string(turned), sum[1:], sum[:3], sum[1:] + sum[:1], "\x00" + sum, "\x00\x00\x00\x00", "\xff\xff\xff\xff"} {
			wantNone(t, text+other)
			wantNone(t, text+other+sum)
		}
	}
}

func TestTakeOfARecordOfWhichOneByteIsAnotherOne(t *testing.T) {
	for _, body := range short() {
		record := put(body)
		for at := range len(record) {
			for b := range 256 {
				if byte(b) == record[at] {
					continue
				}
				turned := with(record, at, byte(b))
				wantNone(t, turned)
				wantNone(t, turned+put("ab"))
			}
		}
	}
}

func TestTakeOfALongRecordOfWhichOneByteIsAnotherOne(t *testing.T) {
	for _, body := range long() {
		record := put(body)
		n := len(record)
		for _, at := range []int{0, 1, 2, 3, 4, n / 2, n - 6, n - 5, n - 4, n - 3, n - 2, n - 1} {
			for bit := range 8 {
				turned := with(record, at, record[at]^1<<bit)
				wantNone(t, turned)
				wantNone(t, turned+put("ab"))
			}
		}
	}
}

// P6.2: the records that stand one behind the other.

func TestAllOfTheExample(t *testing.T) {
	wantAll(t, put("ab")+put("another")[:6], []string{"ab"}, 7)
	wantAll(t, put("ab")+put("ab")[:3], []string{"ab"}, 7)
}

func TestAllOfNothing(t *testing.T) {
	wantAll(t, "", nil, 0)
	for _, tail := range tails {
		wantAll(t, tail, nil, 0)
		// Also when there are whole ones behind what is none.
		if tail != "" {
			wantAll(t, tail+put("ab"), nil, 0)
		}
	}
}

func TestAllOfOne(t *testing.T) {
	for _, body := range append(short(), long()...) {
		for _, tail := range tails {
			wantAll(t, put(body)+tail, []string{body}, len(put(body)))
		}
	}
}

// lists are bodies of several records, some with an empty one first, among them, and last.
func lists() [][]string {
	return [][]string{
		{"ab", "c"},
		{"", ""},
		{"", "a", ""},
		{"a", "", "b"},
		{"a", "a", "a"},
		{"", "", "", "", ""},
		{"one", "", "three", "", "", "six"},
		{mixed(126), mixed(127), mixed(128), "", mixed(129)},
		{put("ab"), put("ab"), put("")},
		short(),
	}
}

func TestAllOfMany(t *testing.T) {
	for _, bodies := range append(lists(), long(), append(long(), short()...)) {
		log := puts(bodies...)
		for _, tail := range tails {
			wantAll(t, log+tail, bodies, len(log))
		}
	}
	many := make([]string, 5000)
	for i := range many {
		many[i] = mixed(i % 7)
	}
	wantAll(t, puts(many...), many, len(puts(many...)))
}

func TestAllEndsAtWhatIsNone(t *testing.T) {
	for _, none := range []string{
		"\x80\x00", "\x80\x80\x80\x80\x10", put(mixed(65537)), summed("\x82\x00ab"), summed("\x03ab"), with(put("ab"), 2, 'c'), put("ab")[:6], put("ab")[1:],
	} {
		for _, ahead := range [][]string{nil, {""}, {"ab"}, {"ab", "", "c"}} {
			log := puts(ahead...)
			wantAll(t, log+none, ahead, len(log))
			wantAll(t, log+none+puts("ab", ""), ahead, len(log))
		}
	}
}

func TestRecordsMayBeLeftEarly(t *testing.T) {
	log := puts("ab", "", "c")
	var bodies []string
	for body, end := range records(log) {
		bodies = append(bodies, body)
		if end >= len(puts("ab", "")) {
			break
		}
	}
	if !slices.Equal(bodies, []string{"ab", ""}) {
		t.Errorf("%q", bodies)
	}
}

func TestAllSharesNoList(t *testing.T) {
	log := puts("ab", "", "c")
	first, _ := All(log)
	clear(append(first, "more"))
	clear(first)
	wantAll(t, log, []string{"ab", "", "c"}, len(log))
}

// P6.3: what was laid is found; of what is cut off or turned, what is whole, and nothing else.

func TestRecordsThatWerePutAreFound(t *testing.T) {
	for _, bodies := range append(lists(), long()) {
		log := ""
		for i, body := range bodies {
			record, e := Put(body)
			if e != api.OK {
				t.Fatalf("Put of %d bytes: %d", len(body), e)
			}
			log += record
			wantAll(t, log, bodies[:i+1], len(log))
		}
	}
}

func TestRecordsThatWerePutAreTakenInTurn(t *testing.T) {
	for _, bodies := range append(lists(), long()) {
		rest := puts(bodies...)
		for _, want := range bodies {
			body, more, e := Take(rest)
			if body != want || e != api.OK {
				t.Fatalf("%.80q, %d; want %.80q", body, e, want)
			}
			rest = more
		}
		wantNone(t, rest)
	}
}

func TestOfRecordsThatAreCutOffTheWholeOnesAreFound(t *testing.T) {
	for _, bodies := range append(lists(), []string{"a", mixed(16384), ""}) {
		log := puts(bodies...)
		whole, end := 0, 0
		for i := range len(log) + 1 {
			if whole < len(bodies) && i == end+len(put(bodies[whole])) {
				whole, end = whole+1, i
			}
			wantAll(t, log[:i], bodies[:whole], end)
		}
		if whole != len(bodies) || end != len(log) {
			t.Fatalf("%d of %d records were whole", whole, len(bodies))
		}
	}
}

func TestOfRecordsOfWhichOneByteIsAnotherOneThoseAheadAreFound(t *testing.T) {
	for _, bodies := range lists() {
		for i := range bodies {
			ahead := puts(bodies[:i]...)
			record := put(bodies[i])
			behind := puts(bodies[i+1:]...)
			for at := range len(record) {
				for _, turn := range []byte{1, 2, 0x10, 0x7f, 0x80, 0xff} {
					turned := with(record, at, record[at]^turn)
					// Of another length there might be another record by chance; here there is none.
					wantAll(t, ahead+turned+behind, bodies[:i], len(ahead))
				}
			}
		}
	}
}

func TestOfABodyThatHasRecordsNothingIsFound(t *testing.T) {
	record := put(puts("ab", "", "c"))
	for at := range len(record) {
		turned := with(record, at, record[at]^0x40)
		wantAll(t, put("x")+turned+put("y"), []string{"x"}, len(put("x")))
	}
}

func TestAnotherLengthMayMakeAnotherRecord(t *testing.T) {
	// A body that goes on with its begin's sum: with another length its begin is a record, and so is what follows.
	begin := put("abc")
	body := begin[1:] + put("de")
	record := put(body)
	turned := with(record, 0, 3)
	wantAll(t, record+put("f"), []string{body, "f"}, len(record)+len(put("f")))
	wantAll(t, turned, []string{"abc", "de"}, len(record)-4)
	wantAll(t, turned+put("f"), []string{"abc", "de"}, len(record)-4)
}

func TestAllIsWhatTheWordsSay(t *testing.T) {
	for _, bodies := range lists()[:7] {
		log := puts(bodies...)
		for at := range len(log) {
			for _, s := range []string{log[at:], log[:at] + log[at+1:], log[:at] + "\x00" + log[at:], with(log, at, 0), with(log, at, 0x80), with(log, at, log[at]+1)} {
				want, n := all(s)
				wantAll(t, s, want, n)
			}
		}
	}
}

// P1: whatever comes, each call ends, and none panics.

func FuzzTake(f *testing.F) {
	for _, body := range short() {
		f.Add(put(body) + "ab")
		f.Add(with(put(body), 0, 0x80))
	}
	for _, tail := range tails {
		f.Add(tail)
	}
	f.Fuzz(func(t *testing.T, s string) {
		body, rest, e := Take(s)
		if e != api.OK {
			if body != "" || rest != "" || e != api.ErrForm {
				t.Fatalf("Take(%q): %q, %q, %d", s, body, rest, e)
			}
		} else if len(body) > 65536 || put(body)+rest != s {
			t.Fatalf("Take(%q): %q, %q", s, body, rest)
		}
		record, e := Put(s)
		if len(s) > 65536 {
			if record != "" || e != api.ErrBig {
				t.Fatalf("Put of %d bytes: %d", len(s), e)
			}
			return
		}
		if record != put(s) || e != api.OK {
			t.Fatalf("Put(%q): %q, %d", s, record, e)
		}
		if body, rest, e := Take(record + s); body != s || rest != s || e != api.OK {
			t.Fatalf("Take of Put(%q): %q, %q, %d", s, body, rest, e)
		}
	})
}

func FuzzAll(f *testing.F) {
	for _, bodies := range lists()[:7] {
		f.Add(puts(bodies...), "")
		f.Add(puts(bodies...)[1:], "a")
	}
	for _, tail := range tails {
		f.Add(put("ab")+tail, tail)
	}
	f.Fuzz(func(t *testing.T, s, body string) {
		if len(s) > 2000 || len(body) > 2000 {
			return
		}
		for _, log := range []string{s, put(body) + s, put(body) + put("") + s, s + put(body)} {
			got, n := All(log)
			want, wantN := all(log)
			if !slices.Equal(got, want) || n != wantN {
				t.Fatalf("All(%q): %q, %d; want %q, %d", log, got, n, want, wantN)
			}
			if puts(got...) != log[:n] {
				t.Fatalf("All(%q): %q, which aren't the first %d bytes", log, got, n)
			}
		}
	})
}
