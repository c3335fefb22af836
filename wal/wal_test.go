package wal

import (
	"bytes"
	"encoding/binary"
	"fmt"
	"hash/crc32"
	"math"
	"math/rand"
	"slices"
	"strings"
	"testing"

	"tattler/api"
	"tattler/disk"
)

// head is eight bytes of a length and a sum.
func head(length, sum uint32) string {
	b := binary.BigEndian.AppendUint32(nil, length)
	return string(binary.BigEndian.AppendUint32(b, sum))
}

// framed is a record with its head, by the library's own sum.
func framed(r string) string {
	return head(uint32(len(r)), crc32.ChecksumIEEE([]byte(r))) + r
}

// row is records one behind the other, as they stand on a disk.
func row(records ...string) string {
	var b strings.Builder
	for _, r := range records {
		b.WriteString(framed(r))
	}
	return b.String()
}

// fill is n bytes that are not all alike.
func fill(n int) string {
	return strings.Repeat("abcdefg", n/7+1)[:n]
}

// texts is the records as texts.
func texts(records [][]byte) []string {
	var out []string
	for _, r := range records {
		out = append(out, string(r))
	}
	return out
}

// lists is the texts as records.
func lists(records []string) [][]byte {
	var out [][]byte
	for _, r := range records {
		out = append(out, []byte(r))
	}
	return out
}

// file makes a disk with room for most bytes, of which some are sure and some, behind them, are not.
func file(t *testing.T, most int, sure, open string) *disk.Disk {
	t.Helper()
	d := disk.New(most)
	if d.Append([]byte(sure)) != api.OK || d.Sync() != api.OK || d.Append([]byte(open)) != api.OK {
		t.Fatalf("no file of %.40q and %.40q", sure, open)
	}
	return d
}

// made opens a new disk with room for most bytes, and appends records.
func made(t *testing.T, most int, records ...string) (*Log, *disk.Disk) {
	t.Helper()
	d := disk.New(most)
	l := opens(t, "a new disk", d, nil)
	for _, r := range records {
		if err := l.Append([]byte(r)); err != api.OK {
			t.Fatalf("Append(%.40q): %d", r, err)
		}
	}
	holds(t, "a new log", l, d, records)
	return l, d
}

// opens says whether Open of d tells these records, and tells the log.
func opens(t *testing.T, what string, d *disk.Disk, want []string) *Log {
	t.Helper()
	l, records, err := Open(d)
	if l == nil || err != api.OK || !slices.Equal(texts(records), want) {
		t.Fatalf("%s: Open: %v, %.80q, %d; want %.80q", what, l != nil, records, err, want)
	}
	return l
}

// room says by the document's words how many bytes the next record may have.
func room(most, size int) int {
	left := most - size - 8
	if left < 0 {
		return -1
	}
	if left > 60000 {
		return 60000
	}
	return left
}

// counts says whether the log tells these numbers.
func counts(t *testing.T, what string, l *Log, length, size, room int) {
	t.Helper()
	if l.Len() != length || l.Size() != size || l.Room() != room {
		t.Errorf("%s: Len %d, Size %d, Room %d; want %d, %d, %d", what, l.Len(), l.Size(), l.Room(), length, size, room)
	}
}

// stands says whether d has just these bytes, so many of them sure.
func stands(t *testing.T, what string, d *disk.Disk, want string, sure int) {
	t.Helper()
	if got := string(d.Bytes()); got != want || d.Size() != len(want) || d.Sure() != sure {
		t.Errorf("%s: %.80q, %d bytes, %d sure; want %.80q, %d, %d", what, got, d.Size(), d.Sure(), want, len(want), sure)
	}
}

// holds says whether the log and its disk have just these records, all of them sure.
func holds(t *testing.T, what string, l *Log, d *disk.Disk, records []string) {
	t.Helper()
	all := row(records...)
	counts(t, what, l, len(records), len(all), room(d.Most(), len(all)))
	stands(t, what, d, all, len(all))
}

// P8.1: no disk, no log.
func TestOpenNil(t *testing.T) {
	if l, records, err := Open(nil); l != nil || records != nil || err != api.ErrArg {
		t.Errorf("Open(nil): %v, %q, %d", l, records, err)
	}
}

// P8.1: an empty disk is a log without records, however much room there is.
func TestOpenEmpty(t *testing.T) {
	for _, c := range []struct{ most, room int }{
		{math.MinInt, -1}, {-1, -1}, {0, -1}, {1, -1}, {7, -1}, {8, 0}, {9, 1}, {100, 92},
		{60007, 59999}, {60008, 60000}, {60009, 60000}, {api.MaxFile, 60000}, {math.MaxInt, 60000},
	} {
		d := disk.New(c.most)
		l := opens(t, fmt.Sprintf("room for %d", c.most), d, nil)
		counts(t, fmt.Sprintf("room for %d", c.most), l, 0, 0, c.room)
		stands(t, fmt.Sprintf("room for %d", c.most), d, "", 0)
	}
}

// P8.1: whole records are told in order, and the disk stays as it was, what is not sure too.
func TestOpenWhole(t *testing.T) {
	for _, records := range [][]string{
		{""},
		{"x"},
		{"", "", ""},
		{"one", "two", ""},
		{"c", "a", "b", "a"},
		{"\x00\xff\x80\n"},
		{row("in", "side"), "out"},
		{fill(300), "", fill(1000)},
		{fill(60000)},
		{"a", fill(60000), "b", fill(59999)},
	} {
		all := row(records...)
		for _, sure := range []int{0, 1, len(all) / 2, len(all)} {
			d := file(t, len(all)+20, all[:sure], all[sure:])
			what := fmt.Sprintf("%.40q, %d sure", records, sure)
			l := opens(t, what, d, records)
			counts(t, what, l, len(records), len(all), 12)
			stands(t, what, d, all, sure)
		}
	}
}

// P8.1: a torn end of every length is cut off, whether it was sure or not; the rest is sure then.
func TestOpenTorn(t *testing.T) {
	for _, records := range [][]string{nil, {""}, {"x"}, {"one", "", "two"}} {
		all := row(records...)
		for _, next := range []string{"", "y", "four", fill(300)} {
			end := framed(next)
			for n := 1; n < len(end); n++ {
				for _, sure := range []int{0, len(all), len(all) + 1, len(all) + n} {
					whole := all + end[:n]
					d := file(t, 400, whole[:sure], whole[sure:])
					what := fmt.Sprintf("%q, %d bytes of %.20q, %d sure", records, n, next, sure)
					l := opens(t, what, d, records)
					holds(t, what, l, d, records)
				}
			}
		}
	}
}

// P8.1: ends that are no beginning of what was appended, but could be one of a record, are torn too.
func TestOpenTornOtherwise(t *testing.T) {
	for _, end := range []string{
		"a", "abc", strings.Repeat("\xff", 7), strings.Repeat("\x00", 7),
		head(1, 0), head(3, 0) + "ab", head(60000, 0), head(60000, 0) + fill(59999), head(9, 7) + framed(""),
	} {
		d := file(t, 70000, row("x"), end)
		what := fmt.Sprintf("x, then %.40q", end)
		holds(t, what, opens(t, what, d, []string{"x"}), d, []string{"x"})
		d = file(t, 70000, "", end)
		holds(t, what+" alone", opens(t, what, d, nil), d, nil)
	}
}

// P8.1: what is appended behind a torn end stands right behind the records.
func TestAppendBehindTorn(t *testing.T) {
	end := framed("lost")
	for n := range len(end) {
		d := file(t, 100, row("a", "b"), end[:n])
		l := opens(t, "torn", d, []string{"a", "b"})
		if err := l.Append([]byte("c")); err != api.OK {
			t.Errorf("%d torn bytes: Append: %d", n, err)
		}
		holds(t, fmt.Sprintf("%d torn bytes", n), l, d, []string{"a", "b", "c"})
		opens(t, "again", d, []string{"a", "b", "c"})
	}
}

// P8.1, R4: what is no row of records is refused, and the disk stays as it was.
func TestOpenRefused(t *testing.T) {
	two := row("a", "bc")
	for _, c := range []struct {
		what, b string
		want    api.Errno
	}{
		{"a wrong sum alone", head(1, 0) + "d", api.ErrForm},
		{"a wrong sum of an empty record", head(0, 1), api.ErrForm},
		{"a wrong sum behind", two + head(1, 0) + "d", api.ErrForm},
		{"a wrong sum behind, bytes behind it", two + head(1, 0) + "dxyz", api.ErrForm},
		{"a wrong sum between", row("a") + head(1, 0) + "d" + row("bc"), api.ErrForm},
		{"a wrong sum of the greatest", two + head(60000, 0) + fill(60000), api.ErrForm},
		{"a long one alone", head(60001, 0), api.ErrLong},
		{"a long one behind", two + head(60001, 0), api.ErrLong},
		{"a long one behind, whole", two + framed(fill(60001)), api.ErrLong},
		{"a long one between", row("a") + head(1<<31, 0) + row("bc"), api.ErrLong},
		{"the longest", two + head(math.MaxUint32, 0), api.ErrLong},
		{"a wrong sum, then a long one", two + head(0, 1) + head(60001, 0), api.ErrForm},
		{"a long one, then a wrong sum", two + head(60001, 0) + head(0, 1), api.ErrLong},
		{"letters", "abcdefgh", api.ErrLong},
	} {
		for _, sure := range []int{0, 1, len(c.b)} {
			d := file(t, 130000, c.b[:sure], c.b[sure:])
			if l, records, err := Open(d); l != nil || records != nil || err != c.want {
				t.Errorf("%s: %v, %.40q, %d; want %d", c.what, l != nil, records, err, c.want)
			}
			stands(t, c.what, d, c.b, sure)
		}
	}
}

// P8.2: each record stands behind the others, and is sure, once it was answered.
func TestAppend(t *testing.T) {
	l, d := made(t, 200000)
	var want []string
	for _, r := range []string{"one", "two", "", "two", "\x00\xff", fill(300), row("x"), "", fill(60000), "z", fill(59999)} {
		if err := l.Append([]byte(r)); err != api.OK {
			t.Errorf("Append(%.40q): %d", r, err)
		}
		want = append(want, r)
		holds(t, fmt.Sprintf("Append(%.40q)", r), l, d, want)
		opens(t, fmt.Sprintf("behind Append(%.40q)", r), d, want)
	}
}

// P8.2: a record of MaxBytes bytes may be, one more may not, whether there is room or not.
func TestAppendLong(t *testing.T) {
	if api.MaxBytes != 60000 {
		t.Errorf("MaxBytes is %d", api.MaxBytes)
	}
	for _, most := range []int{9, 100, 60016, 60017, 200000, api.MaxFile} {
		l, d := made(t, most, "x")
		for _, n := range []int{60001, 60002, 65536, 1 << 20, 1<<20 + 1} {
			if err := l.Append(make([]byte, n)); err != api.ErrLong {
				t.Errorf("room for %d: Append of %d: %d", most, n, err)
			}
			holds(t, "refused", l, d, []string{"x"})
		}
		want, records := api.ErrRoom, []string{"x"}
		if most >= 60017 {
			want, records = api.OK, []string{"x", fill(60000)}
		}
		if err := l.Append([]byte(fill(60000))); err != want {
			t.Errorf("room for %d: Append of MaxBytes: %d, want %d", most, err, want)
		}
		holds(t, "MaxBytes", l, d, records)
	}
}

// P8.2: what just fits the disk is appended, a byte more is not; what is refused changes nothing.
func TestAppendRoom(t *testing.T) {
	for most := 17; most < 60; most++ {
		l, d := made(t, most, "a", "")
		fits := most - 17 - 8
		if fits < 0 {
			counts(t, "full", l, 2, 17, -1)
			if err := l.Append(nil); err != api.ErrRoom {
				t.Errorf("room for %d: Append of nothing: %d", most, err)
			}
			holds(t, "refused", l, d, []string{"a", ""})
			continue
		}
		counts(t, "not full", l, 2, 17, fits)
		for range 3 {
			if err := l.Append([]byte(fill(fits + 1))); err != api.ErrRoom {
				t.Errorf("room for %d: Append of %d: %d", most, fits+1, err)
			}
			holds(t, "refused", l, d, []string{"a", ""})
		}
		if err := l.Append([]byte(fill(fits))); err != api.OK {
			t.Errorf("room for %d: Append of %d: %d", most, fits, err)
		}
		holds(t, "full", l, d, []string{"a", "", fill(fits)})
		counts(t, "full", l, 3, most, -1)
	}
}

// P8.2: a record fits if it has no more bytes than Room tells, and only then.
func TestRoom(t *testing.T) {
	for _, c := range []struct {
		most, size, room int
	}{
		{100, 100, -1}, {100, 99, -1}, {100, 93, -1}, {100, 92, 0}, {100, 91, 1}, {100, 8, 84},
		{8, 8, -1}, {15, 8, -1}, {16, 8, 0}, {17, 8, 1},
		{60015, 8, 59999}, {60016, 8, 60000}, {60017, 8, 60000}, {65536, 8, 60000},
		{api.MaxFile, 8, 60000}, {math.MaxInt, 8, 60000},
		{api.MaxFile, 60008, 60000},
	} {
		l, d := made(t, c.most, fill(c.size-8))
		what := fmt.Sprintf("room for %d, %d taken", c.most, c.size)
		counts(t, what, l, 1, c.size, c.room)
		if err := l.Append(make([]byte, c.room+1)); err == api.OK {
			t.Errorf("%s: one above Room was appended", what)
		}
		if c.room < 0 {
			continue
		}
		if err := l.Append(make([]byte, c.room)); err != api.OK {
			t.Errorf("%s: Append of what Room tells: %d", what, err)
		}
		holds(t, what, l, d, []string{fill(c.size - 8), string(make([]byte, c.room))})
	}
}

// P8.2: of a disk as great as may be Room tells MaxBytes till less is left.
func TestRoomOfGreatest(t *testing.T) {
	l, d := made(t, api.MaxFile)
	var want []string
	for range 17 {
		counts(t, "not full", l, len(want), 60008*len(want), 60000)
		if err := l.Append([]byte(fill(60000))); err != api.OK {
			t.Fatalf("Append: %d", err)
		}
		want = append(want, fill(60000))
	}
	left := api.MaxFile - 17*60008 - 8
	counts(t, "nearly full", l, 17, 17*60008, left)
	if l.Append(make([]byte, left+1)) != api.ErrRoom || l.Append([]byte(fill(left))) != api.OK {
		t.Error("the last one")
	}
	holds(t, "full", l, d, append(want, fill(left)))
	counts(t, "full", l, 18, api.MaxFile, -1)
}

// P8.2: Compact makes the log just these rows, at once, whatever it had.
func TestCompact(t *testing.T) {
	for _, old := range [][]string{nil, {""}, {"a", "bc"}, {fill(84)}} {
		for _, rows := range [][]string{
			nil, {""}, {"x"}, {"", ""}, {"a", "b"}, {"b", "a", "b"}, {"a", "bc"}, {"\x00", "\xff"},
			{row("in", "side")}, {fill(92)}, {fill(42), fill(42)}, {"", fill(84)}, {fill(84), ""},
		} {
			l, d := made(t, 100, old...)
			what := fmt.Sprintf("%q: Compact(%q)", old, rows)
			if err := l.Compact(lists(rows)); err != api.OK {
				t.Errorf("%s: %d", what, err)
			}
			holds(t, what, l, d, rows)
			opens(t, what, d, rows)
		}
	}
}

// P8.2: nil and empty lists are one, as rows and as a row.
func TestCompactNil(t *testing.T) {
	for _, c := range []struct {
		rows [][]byte
		want []string
	}{
		{nil, nil},
		{[][]byte{}, nil},
		{[][]byte{nil}, []string{""}},
		{[][]byte{{}}, []string{""}},
		{[][]byte{nil, []byte("a"), {}}, []string{"", "a", ""}},
	} {
		l, d := made(t, 50, "x", "y")
		if err := l.Compact(c.rows); err != api.OK {
			t.Errorf("Compact(%v): %d", c.rows, err)
		}
		holds(t, fmt.Sprintf("Compact(%v)", c.rows), l, d, c.want)
	}
	l, d := made(t, 50)
	if l.Append(nil) != api.OK || l.Append([]byte{}) != api.OK {
		t.Error("Append of nothing")
	}
	holds(t, "nothing, twice", l, d, []string{"", ""})
}

// P8.2: rows that do not fit, or of which one is too long, are refused, and nothing is changed; too long goes ahead.
func TestCompactRefused(t *testing.T) {
	long := fill(60001)
	for _, c := range []struct {
		most int
		rows []string
		want api.Errno
	}{
		{100, []string{fill(93)}, api.ErrRoom},
		{100, []string{fill(42), fill(43)}, api.ErrRoom},
		{100, []string{fill(43), fill(42)}, api.ErrRoom},
		{100, []string{"", fill(85)}, api.ErrRoom},
		{100, []string{fill(85), ""}, api.ErrRoom},
		{100, slices.Repeat([]string{""}, 13), api.ErrRoom},
		{100, []string{fill(60000)}, api.ErrRoom},
		{100, []string{long}, api.ErrLong},
		{100, []string{fill(200), long}, api.ErrLong},
		{100, []string{long, fill(200)}, api.ErrLong},
		{api.MaxFile, []string{long}, api.ErrLong},
		{api.MaxFile, []string{long, ""}, api.ErrLong},
		{api.MaxFile, []string{"", long}, api.ErrLong},
		{api.MaxFile, []string{"a", long, "b"}, api.ErrLong},
		{api.MaxFile, []string{fill(1 << 20)}, api.ErrLong},
		{api.MaxFile, slices.Repeat([]string{fill(60000)}, 18), api.ErrRoom},
		{api.MaxFile, append(slices.Repeat([]string{fill(60000)}, 18), long), api.ErrLong},
		{api.MaxFile, slices.Repeat([]string{""}, api.MaxFile/8+1), api.ErrRoom},
	} {
		for _, old := range [][]string{nil, {"a", "", "bc"}, {fill(92)}} {
			l, d := made(t, c.most, old...)
			what := fmt.Sprintf("room for %d: Compact of %d rows", c.most, len(c.rows))
			if err := l.Compact(lists(c.rows)); err != c.want {
				t.Errorf("%s: %d, want %d", what, err, c.want)
			}
			holds(t, what, l, d, old)
		}
	}
}

// P8.2: the greatest that Compact may lay down: by bytes, by a row, by their number.
func TestCompactGreatest(t *testing.T) {
	rest := api.MaxFile - 17*60008 - 8
	for _, rows := range [][]string{
		{fill(60000)},
		append(slices.Repeat([]string{fill(60000)}, 17), fill(rest)),
		slices.Repeat([]string{""}, api.MaxFile/8),
	} {
		l, d := made(t, api.MaxFile, "old")
		if err := l.Compact(lists(rows)); err != api.OK {
			t.Errorf("Compact of %d rows: %d", len(rows), err)
		}
		holds(t, fmt.Sprintf("%d rows", len(rows)), l, d, rows)
		opens(t, fmt.Sprintf("%d rows", len(rows)), d, rows)
	}
}

// P8.2: a full log that was compacted has room again, and what is appended stands behind the rows.
func TestAppendBehindCompact(t *testing.T) {
	l, d := made(t, 40, "a", "b", fill(14))
	counts(t, "full", l, 3, 40, -1)
	if l.Append(nil) != api.ErrRoom || l.Compact([][]byte{[]byte("ab")}) != api.OK {
		t.Error("full")
	}
	counts(t, "compacted", l, 1, 10, 22)
	if l.Append(make([]byte, 23)) != api.ErrRoom || l.Append([]byte(fill(22))) != api.OK {
		t.Error("behind Compact there is not room for just 22")
	}
	holds(t, "appended", l, d, []string{"ab", fill(22)})
	if l.Compact(nil) != api.OK {
		t.Error("Compact(nil)")
	}
	counts(t, "none", l, 0, 0, 32)
}

// P8.2, R3: a nil log refuses all, also what no log would take, and tells zero values.
func TestNil(t *testing.T) {
	var l *Log
	for _, r := range [][]byte{nil, {}, []byte("a"), make([]byte, 60001)} {
		if l.Append(r) != api.ErrArg || l.Compact([][]byte{r}) != api.ErrArg {
			t.Errorf("%d bytes: not ErrArg", len(r))
		}
	}
	if l.Compact(nil) != api.ErrArg || l.Compact([][]byte{}) != api.ErrArg {
		t.Error("Compact of no rows: not ErrArg")
	}
	counts(t, "nil", l, 0, 0, 0)
}

// P8.2, R3: a log that no Open made has no disk, and hands its errors on.
func TestNoDisk(t *testing.T) {
	var l Log
	if l.Append(nil) != api.ErrArg || l.Append([]byte("a")) != api.ErrArg || l.Compact(nil) != api.ErrArg {
		t.Error("not ErrArg")
	}
	counts(t, "no disk", &l, 0, 0, -1)
}

// P8.3: what was answered is told by Open behind a crash that keeps any beginning of what was not sure.
func TestCrash(t *testing.T) {
	for _, want := range [][]string{nil, {""}, {"a", "", "bc"}} {
		for _, next := range []string{"", "x", "four", fill(30)} {
			end := framed(next)
			for pick := range len(end) + 1 {
				l, d := made(t, 100, want...)
				if d.Append([]byte(end)) != api.OK {
					t.Fatal("no room")
				}
				d.Crash(pick)
				told := want
				if pick == len(end) {
					told = append(slices.Clone(want), next)
				}
				what := fmt.Sprintf("%q, %d bytes of %.20q", want, pick, next)
				l = opens(t, what, d, told)
				holds(t, what, l, d, told)
				d.Crash(pick)
				opens(t, what+", a second crash", d, told)
			}
		}
	}
}

// P8.3: behind each call that was answered any crash leaves all: nothing is open then.
func TestSure(t *testing.T) {
	for _, pick := range []int{0, 1, 2, 8, 9, 255, math.MaxInt, -1, math.MinInt} {
		l, d := made(t, 200)
		var want []string
		for _, r := range []string{"one", "", "two", fill(40)} {
			if l.Append([]byte(r)) != api.OK {
				t.Fatal("Append")
			}
			want = append(want, r)
			d.Crash(pick)
			holds(t, "Append, Crash", l, d, want)
			l = opens(t, "Append, Crash", d, want)
		}
		for _, rows := range [][]string{{"a", "b"}, nil, {"", fill(50)}} {
			if l.Compact(lists(rows)) != api.OK {
				t.Fatal("Compact")
			}
			d.Crash(pick)
			holds(t, "Compact, Crash", l, d, rows)
			l = opens(t, "Compact, Crash", d, rows)
		}
	}
}

// P8.1, P8.3: the document's own example.
func TestExample(t *testing.T) {
	l, d := made(t, 100)
	if l.Append([]byte("x")) != api.OK || d.Append([]byte("abc")) != api.OK {
		t.Fatal("Append")
	}
	holds(t, "Open", opens(t, "Open", d, []string{"x"}), d, []string{"x"})
}

// crash does what may come to a disk between two logs: a record that was not answered, of which a beginning stays.
func crash(rnd *rand.Rand, d *disk.Disk, records []string) []string {
	lost := make([]byte, rnd.Intn(20))
	rnd.Read(lost)
	end := framed(string(lost))
	if d.Append([]byte(end)) != api.OK {
		end = ""
	}
	kept := rnd.Intn(len(end) + 1)
	d.Crash(kept)
	if end != "" && kept == len(end) {
		return append(records, string(lost))
	}
	return records
}

// P8.1 to P8.3: long rows of calls and crashes, held against a list of texts.
func TestLongRows(t *testing.T) {
	rnd := rand.New(rand.NewSource(8))
	met := map[api.Errno]int{}
	for range 300 {
		most := rnd.Intn(300)
		l, d := made(t, most)
		var want []string
		for range 60 {
			switch rnd.Intn(6) {
			case 0:
				want = crash(rnd, d, want)
				l = opens(t, "behind a crash", d, want)
			case 1:
				rows := slices.Clone(want[rnd.Intn(len(want)+1):])
				rows = append(rows, fill(rnd.Intn(most+2)))
				fits := len(row(rows...)) <= most
				err := l.Compact(lists(rows))
				if (err == api.OK) != fits || !fits && err != api.ErrRoom {
					t.Fatalf("Compact of %d bytes of %d: %d", len(row(rows...)), most, err)
				}
				if fits {
					want = rows
				}
				met[err]++
			default:
				r := make([]byte, rnd.Intn(60))
				rnd.Read(r)
				fits := len(r) <= l.Room()
				err := l.Append(r)
				if (err == api.OK) != fits || !fits && err != api.ErrRoom {
					t.Fatalf("Append of %d bytes: %d", len(r), err)
				}
				if fits {
					want = append(want, string(r))
				}
				met[err]++
			}
			holds(t, "a long row", l, d, want)
		}
	}
	if met[api.OK] < 1000 || met[api.ErrRoom] < 1000 {
		t.Errorf("met %v", met)
	}
}

// R2: what was handed in is neither changed nor kept.
func TestHandedIn(t *testing.T) {
	l, d := made(t, 100)
	r := []byte("abcdef")
	l.Append(r[:3])
	if string(r) != "abcdef" {
		t.Errorf("Append: %q", r)
	}
	copy(r, "??????")
	holds(t, "Append, written over", l, d, []string{"abc"})
	opens(t, "Append, written over", d, []string{"abc"})
	a, b := []byte("abcdef"), []byte("xyz")
	rows := [][]byte{a[:2], b, a[4:], nil, b}[:3]
	l.Compact(rows)
	if string(a) != "abcdef" || string(b) != "xyz" || rows[:5][3] != nil || string(rows[:5][4]) != "xyz" || string(rows[0]) != "ab" {
		t.Errorf("Compact: %q, %q, %q", a, b, rows[:5])
	}
	copy(a, "??????")
	copy(b, "???")
	clear(rows)
	holds(t, "Compact, written over", l, d, []string{"ab", "xyz", "ef"})
	opens(t, "Compact, written over", d, []string{"ab", "xyz", "ef"})
}

// R2, R4: what is refused is neither changed nor kept too.
func TestHandedInRefused(t *testing.T) {
	l, d := made(t, 20, "x")
	r, long := []byte(fill(30)), []byte(fill(60001))
	l.Append(r)
	l.Append(long)
	l.Compact([][]byte{r})
	l.Compact([][]byte{r, long})
	if string(r) != fill(30) || string(long) != fill(60001) {
		t.Error("what was handed in was changed")
	}
	clear(r)
	holds(t, "refused, written over", l, d, []string{"x"})
}

// R2: what Open told is the caller's own, each record of it.
func TestTold(t *testing.T) {
	want := []string{"abc", "", "de", "f"}
	_, d := made(t, 100, want...)
	l, first, _ := Open(d)
	_, second, _ := Open(d)
	for i := range first {
		_ = append(first[i], "!!!!!!!!!!"...)
	}
	if !slices.Equal(texts(first), want) {
		t.Errorf("written behind each record: %q", first)
	}
	for _, r := range first {
		for i := range r {
			r[i] = '?'
		}
	}
	clear(first)
	holds(t, "written over what was told", l, d, want)
	opens(t, "written over what was told", d, want)
	l.Append([]byte("more"))
	l.Compact([][]byte{[]byte("zzzzzz")})
	if !slices.Equal(texts(second), want) {
		t.Errorf("what was told first is %q", second)
	}
}

// R2: what lies behind a record that was told is nothing of another.
func TestBehindTold(t *testing.T) {
	_, d := made(t, 100, "a", "secret")
	_, records, _ := Open(d)
	if behind := records[0][1:cap(records[0])]; bytes.Contains(behind, []byte("s")) {
		t.Errorf("behind the first record stands %q", behind)
	}
}

// P8.2: asking changes nothing, and logs keep to themselves.
func TestApart(t *testing.T) {
	x, dx := made(t, 50, "a")
	y, dy := made(t, 70, "b", "c")
	x.Append([]byte("d"))
	holds(t, "the other log", y, dy, []string{"b", "c"})
	y.Compact(nil)
	for range 3 {
		holds(t, "the one log", x, dx, []string{"a", "d"})
		holds(t, "the other log", y, dy, nil)
	}
}
