package disk

import (
	"bytes"
	"fmt"
	"math"
	"math/big"
	"math/rand"
	"strings"
	"testing"

	"tattler/api"
)

// file makes a disk with room for most bytes, of which some are sure and some, behind them, are not.
func file(t *testing.T, most int, sure, open string) *Disk {
	t.Helper()
	d := New(most)
	if d.Append([]byte(sure)) != api.OK || d.Sync() != api.OK || d.Append([]byte(open)) != api.OK {
		t.Fatalf("no file of %q and %q", sure, open)
	}
	holds(t, "a new file", d, most, sure, open)
	return d
}

// holds says whether d is such a file in all that it tells.
func holds(t *testing.T, what string, d *Disk, most int, sure, open string) {
	t.Helper()
	got := d.Bytes()
	if string(got) != sure+open || d.Size() != len(sure+open) || d.Sure() != len(sure) || d.Most() != most {
		t.Errorf("%s: %.40q, size %d, sure %d, most %d; want %.40q, %.40q, most %d", what, got, d.Size(), d.Sure(), d.Most(), sure, open, most)
	}
}

// fill is n bytes that are not all alike.
func fill(n int) string {
	return strings.Repeat("abcdefg", n/7+1)[:n]
}

// P6.1: a new file is empty; its room is what was given, from 0 to MaxFile.
func TestNew(t *testing.T) {
	for _, c := range []struct{ most, want int }{
		{10, 10},
		{1, 1},
		{0, 0},
		{-1, 0},
		{math.MinInt, 0},
		{api.MaxFile - 1, api.MaxFile - 1},
		{api.MaxFile, api.MaxFile},
		{api.MaxFile + 1, api.MaxFile},
		{math.MaxInt, api.MaxFile},
	} {
		d := New(c.most)
		if d == nil {
			t.Fatalf("New(%d) is nil", c.most)
		}
		holds(t, fmt.Sprintf("New(%d)", c.most), d, c.want, "", "")
	}
	if api.MaxFile != 1048576 {
		t.Errorf("MaxFile is %d", api.MaxFile)
	}
}

// P6.1: a file's room is what New says, to the byte, however it is filled.
func TestRoom(t *testing.T) {
	for _, given := range []int{math.MinInt, -1, 0, 1, 7, 4096, api.MaxFile - 1, api.MaxFile, api.MaxFile + 1, math.MaxInt} {
		most := min(max(given, 0), api.MaxFile)
		whole, over := fill(most), []byte(fill(most+1))
		d := New(given)
		if err := d.Append(over); err != api.ErrRoom {
			t.Errorf("most %d: Append of one more: %d", given, err)
		}
		if err := d.Replace(over); err != api.ErrRoom {
			t.Errorf("most %d: Replace by one more: %d", given, err)
		}
		holds(t, fmt.Sprintf("most %d, refused", given), d, most, "", "")
		if err := d.Append([]byte(whole)); err != api.OK {
			t.Errorf("most %d: Append of all: %d", given, err)
		}
		holds(t, fmt.Sprintf("most %d, appended", given), d, most, "", whole)
		d = New(given)
		if err := d.Replace([]byte(whole)); err != api.OK {
			t.Errorf("most %d: Replace by all: %d", given, err)
		}
		holds(t, fmt.Sprintf("most %d, replaced", given), d, most, whole, "")
	}
}

// P6.1: Append lays all of b behind, if there is room for all of it; nothing of it is sure. What is refused changes nothing.
func TestAppend(t *testing.T) {
	for _, c := range []struct {
		most            int
		sure, open, add string
		want            api.Errno
	}{
		{10, "", "", "abc", api.OK},
		{10, "ab", "", "c", api.OK},
		{10, "ab", "cd", "ef", api.OK},
		{10, "ab", "cd", "", api.OK},
		{10, "", "", "", api.OK},
		{10, "ab", "cd", "efghij", api.OK},
		{10, "ab", "cd", "efghijk", api.ErrRoom},
		{10, "", "", "abcdefghij", api.OK},
		{10, "", "", "abcdefghijk", api.ErrRoom},
		{10, "abcdefghij", "", "", api.OK},
		{10, "abcdefghij", "", "k", api.ErrRoom},
		{10, "", "abcdefghij", "", api.OK},
		{10, "", "abcdefghij", "k", api.ErrRoom},
		{10, "abcdefghi", "", "j", api.OK},
		{10, "abcdefghi", "", "jk", api.ErrRoom},
		{1, "", "", "a", api.OK},
		{1, "", "", "ab", api.ErrRoom},
		{0, "", "", "", api.OK},
		{0, "", "", "a", api.ErrRoom},
		{10, "\x00", "\xff", "\x00\x80%\n", api.OK},
	} {
		d := file(t, c.most, c.sure, c.open)
		what := fmt.Sprintf("room %d, %q, %q: Append(%q)", c.most, c.sure, c.open, c.add)
		if err := d.Append([]byte(c.add)); err != c.want {
			t.Errorf("%s = %d, want %d", what, err, c.want)
		}
		open := c.open
		if c.want == api.OK {
			open += c.add
		}
		holds(t, what, d, c.most, c.sure, open)
	}
	d := file(t, 4, "ab", "c")
	if d.Append(nil) != api.OK {
		t.Error("Append(nil) is refused")
	}
	holds(t, "Append(nil)", d, 4, "ab", "c")
}

// P6.1: behind a refusal there is as much room as ahead of it.
func TestAppendBehindRefusal(t *testing.T) {
	d := file(t, 6, "ab", "c")
	for range 3 {
		if err := d.Append([]byte("wxyz")); err != api.ErrRoom {
			t.Errorf("Append of four into three: %d", err)
		}
	}
	if err := d.Append([]byte("def")); err != api.OK {
		t.Errorf("Append of three into three: %d", err)
	}
	holds(t, "behind refusals", d, 6, "ab", "cdef")
}

// P6.1: behind Sync all is sure, and stays as it was.
func TestSync(t *testing.T) {
	for _, c := range []struct{ sure, open string }{
		{"", ""}, {"ab", ""}, {"", "ab"}, {"ab", "cd"}, {"ab", "cdef"},
	} {
		d := file(t, 6, c.sure, c.open)
		for range 2 {
			if err := d.Sync(); err != api.OK {
				t.Errorf("%q, %q: Sync = %d", c.sure, c.open, err)
			}
			holds(t, fmt.Sprintf("%q, %q: Sync", c.sure, c.open), d, 6, c.sure+c.open, "")
		}
	}
}

// P6.1: Replace makes the file b, and all of it sure; its bound is most, whatever stood ahead. What is refused changes nothing.
func TestReplace(t *testing.T) {
	for _, c := range []struct {
		most          int
		sure, open, b string
		want          api.Errno
	}{
		{6, "", "", "abc", api.OK},
		{6, "ab", "cd", "xyz", api.OK},
		{6, "ab", "cd", "", api.OK},
		{6, "", "", "", api.OK},
		{6, "ab", "cd", "uvwxyz", api.OK},
		{6, "ab", "cd", "tuvwxyz", api.ErrRoom},
		{6, "abcdef", "", "uvwxyz", api.OK},
		{6, "", "abcdef", "uvwxyz", api.OK},
		{6, "abcdef", "", "tuvwxyz", api.ErrRoom},
		{6, "", "abcdef", "tuvwxyz", api.ErrRoom},
		{6, "ab", "cd", "abcd", api.OK},
		{6, "abc", "", "a", api.OK},
		{0, "", "", "", api.OK},
		{0, "", "", "a", api.ErrRoom},
		{3, "\x00", "\xff", "\xff\x00", api.OK},
	} {
		d := file(t, c.most, c.sure, c.open)
		what := fmt.Sprintf("room %d, %q, %q: Replace(%q)", c.most, c.sure, c.open, c.b)
		if err := d.Replace([]byte(c.b)); err != c.want {
			t.Errorf("%s = %d, want %d", what, err, c.want)
		}
		if c.want == api.OK {
			holds(t, what, d, c.most, c.b, "")
		} else {
			holds(t, what, d, c.most, c.sure, c.open)
		}
	}
	d := file(t, 4, "ab", "c")
	if d.Replace(nil) != api.OK {
		t.Error("Replace(nil) is refused")
	}
	holds(t, "Replace(nil)", d, 4, "", "")
}

// P6.1: Cut takes what stands from n on, and makes the rest sure, whether it was or not. What is refused changes nothing.
func TestCut(t *testing.T) {
	for _, c := range []struct {
		sure, open string
		n          int
		want       api.Errno
	}{
		{"abc", "def", 0, api.OK},
		{"abc", "def", 1, api.OK},
		{"abc", "def", 2, api.OK},
		{"abc", "def", 3, api.OK},
		{"abc", "def", 4, api.OK},
		{"abc", "def", 5, api.OK},
		{"abc", "def", 6, api.OK},
		{"abc", "def", 7, api.ErrArg},
		{"abc", "def", 8, api.ErrArg},
		{"abc", "def", math.MaxInt, api.ErrArg},
		{"abc", "def", -1, api.ErrArg},
		{"abc", "def", -6, api.ErrArg},
		{"abc", "def", math.MinInt, api.ErrArg},
		{"abc", "", 3, api.OK},
		{"abc", "", 4, api.ErrArg},
		{"abc", "", 1, api.OK},
		{"", "abc", 3, api.OK},
		{"", "abc", 1, api.OK},
		{"", "abc", 0, api.OK},
		{"", "abc", 4, api.ErrArg},
		{"", "", 0, api.OK},
		{"", "", 1, api.ErrArg},
		{"", "", -1, api.ErrArg},
	} {
		d := file(t, 10, c.sure, c.open)
		what := fmt.Sprintf("%q, %q: Cut(%d)", c.sure, c.open, c.n)
		if err := d.Cut(c.n); err != c.want {
			t.Errorf("%s = %d, want %d", what, err, c.want)
		}
		if c.want == api.OK {
			holds(t, what, d, 10, (c.sure + c.open)[:c.n], "")
		} else {
			holds(t, what, d, 10, c.sure, c.open)
		}
	}
}

// P6.1: what was cut off gives its room back, and does not come again.
func TestBehindCut(t *testing.T) {
	d := file(t, 6, "abc", "def")
	if d.Cut(2) != api.OK || d.Cut(3) != api.ErrArg || d.Append([]byte("vwxyz")) != api.ErrRoom {
		t.Error("behind Cut(2) there are not two bytes of six")
	}
	if d.Append([]byte("wxyz")) != api.OK {
		t.Error("behind Cut(2) there is no room for four")
	}
	holds(t, "Cut, Append", d, 6, "ab", "wxyz")
}

// kept says by great numbers how many of open bytes stay: pick without a sign, modulo their number and one.
func kept(pick, open int) int {
	n := big.NewInt(int64(pick))
	if n.Sign() < 0 {
		n.Add(n, new(big.Int).Lsh(big.NewInt(1), 64))
	}
	return int(n.Mod(n, big.NewInt(int64(open)+1)).Int64())
}

// P6.2: of what is not sure a crash keeps as many as pick says, from the first on; all is sure then.
func TestCrash(t *testing.T) {
	picks := []int{0, 1, 2, 3, 4, 5, 6, 7, 8, 9, 255, 256, 1 << 32, 1<<32 + 1, math.MaxInt - 1, math.MaxInt, -1, -2, -3, -4, -5, -6, -7, -8, -256, -1 << 32, math.MinInt + 2, math.MinInt + 1, math.MinInt}
	for _, sure := range []string{"", "a", "abc"} {
		for n := range 7 {
			open := "uvwxyz"[:n]
			for _, pick := range picks {
				d := file(t, 10, sure, open)
				d.Crash(pick)
				holds(t, fmt.Sprintf("%q, %q: Crash(%d)", sure, open, pick), d, 10, sure+open[:kept(pick, n)], "")
			}
		}
	}
}

// P6.2: the same, by numbers that were worked out by hand.
func TestCrashByHand(t *testing.T) {
	for _, c := range []struct {
		open string
		pick int
		want string
	}{
		{"", 0, ""}, {"", 1, ""}, {"", math.MaxInt, ""}, {"", -1, ""}, {"", math.MinInt, ""},
		{"xyz", 0, ""}, {"xyz", 1, "x"}, {"xyz", 2, "xy"}, {"xyz", 3, "xyz"}, {"xyz", 4, ""}, {"xyz", 7, "xyz"},
		// 2^64 is 0 modulo 4, and 2^63 too.
		{"xyz", -1, "xyz"}, {"xyz", -2, "xy"}, {"xyz", -4, ""}, {"xyz", math.MinInt, ""}, {"xyz", math.MaxInt, "xyz"},
		// 2^64 is 1 modulo 3, 2^63 is 2: what -1 stands for is 0, not 2.
		{"xy", -1, ""}, {"xy", -2, "xy"}, {"xy", -3, "x"}, {"xy", math.MinInt, "xy"}, {"xy", math.MaxInt, "x"},
		// 2^64 is 1 modulo 5, 2^63 is 3.
		{"wxyz", -1, ""}, {"wxyz", -2, "wxyz"}, {"wxyz", math.MinInt, "wxy"}, {"wxyz", math.MaxInt, "wx"},
	} {
		d := file(t, 10, "ab", c.open)
		d.Crash(c.pick)
		holds(t, fmt.Sprintf("%q: Crash(%d)", c.open, c.pick), d, 10, "ab"+c.want, "")
	}
}

// P6.2: what a crash took gives its room back, and does not come again; what it kept is not at stake any more.
func TestBehindCrash(t *testing.T) {
	d := file(t, 6, "ab", "cdef")
	d.Crash(1)
	for pick := range 9 {
		d.Crash(pick)
		holds(t, "a second crash", d, 6, "abc", "")
	}
	if d.Append([]byte("wxyz")) != api.ErrRoom || d.Append([]byte("xyz")) != api.OK {
		t.Error("behind Crash(1) there is not room for just three")
	}
	holds(t, "Crash, Append", d, 6, "abc", "xyz")
}

// P6.1, P6.2: of a file that is as great as may be.
func TestGreatest(t *testing.T) {
	whole := fill(api.MaxFile)
	for _, pick := range []int{0, 1, api.MaxFile - 8, api.MaxFile - 7, api.MaxFile - 6, -1, math.MinInt, math.MaxInt} {
		d := file(t, api.MaxFile, whole[:7], whole[7:])
		d.Crash(pick)
		holds(t, fmt.Sprintf("Crash(%d)", pick), d, api.MaxFile, whole[:7+kept(pick, api.MaxFile-7)], "")
	}
	d := file(t, api.MaxFile, "", whole)
	if d.Cut(api.MaxFile+1) != api.ErrArg || d.Cut(api.MaxFile) != api.OK {
		t.Error("Cut at the end")
	}
	holds(t, "Cut at the end", d, api.MaxFile, whole, "")
	if d.Append([]byte{0}) != api.ErrRoom || d.Cut(api.MaxFile-1) != api.OK || d.Append([]byte{0}) != api.OK {
		t.Error("Append at the end")
	}
	holds(t, "Append at the end", d, api.MaxFile, whole[:api.MaxFile-1], "\x00")
}

// P6.2: the document's own example.
func TestExample(t *testing.T) {
	d := New(100)
	d.Append([]byte("ab"))
	d.Sync()
	d.Append([]byte("cd"))
	d.Crash(1)
	if got := string(d.Bytes()); got != "abc" {
		t.Errorf("%q", got)
	}
}

// P6.2, R3: a nil disk refuses all, also what a disk could do, and tells zero values.
func TestNil(t *testing.T) {
	var d *Disk
	for _, b := range [][]byte{nil, {}, []byte("a"), make([]byte, api.MaxFile+1)} {
		if d.Append(b) != api.ErrArg || d.Replace(b) != api.ErrArg {
			t.Errorf("%d bytes: not ErrArg", len(b))
		}
	}
	for _, n := range []int{math.MinInt, -1, 0, 1, math.MaxInt} {
		if d.Cut(n) != api.ErrArg {
			t.Errorf("Cut(%d): not ErrArg", n)
		}
		d.Crash(n)
	}
	if err := d.Sync(); err != api.ErrArg {
		t.Errorf("Sync: %d", err)
	}
	if d.Bytes() != nil || d.Size() != 0 || d.Sure() != 0 || d.Most() != 0 {
		t.Error(d.Bytes(), d.Size(), d.Sure(), d.Most())
	}
}

// P6.1, R2: what was handed in is copied: whoever writes over it later changes no file, and no call writes to it.
func TestHandedIn(t *testing.T) {
	for name, call := range map[string]func(d *Disk, b []byte) api.Errno{
		"Append":  (*Disk).Append,
		"Replace": (*Disk).Replace,
	} {
		whole := []byte("abcdef")
		d := New(20)
		if err := call(d, whole[:3]); err != api.OK {
			t.Errorf("%s: %d", name, err)
		}
		d.Sync()
		d.Append([]byte("xyz"))
		d.Crash(2)
		d.Cut(4)
		d.Append([]byte("ZZZ"))
		if string(whole) != "abcdef" {
			t.Errorf("%s: what was handed in is %q", name, whole)
		}
		copy(whole, "??????")
		holds(t, name+", written over from outside", d, 20, "abcx", "ZZZ")
	}
}

// P6.1, R2: one list handed in again and again, and to two files.
func TestHandedInTwice(t *testing.T) {
	b := []byte("ab")
	x, y := New(6), New(6)
	x.Replace(b)
	y.Replace(b)
	x.Append(b)
	b[0] = 'z'
	y.Append(b)
	x.Append(b)
	holds(t, "the first", x, 6, "ab", "abzb")
	holds(t, "the second", y, 6, "ab", "zb")
	if string(b) != "zb" {
		t.Errorf("what was handed in is %q", b)
	}
}

// P6.2, R2: what was told is the caller's own: writing over it, or behind it, changes no file, and no call changes it.
func TestTold(t *testing.T) {
	d := file(t, 10, "ab", "cd")
	first, second := d.Bytes(), d.Bytes()
	copy(first, "????")
	_ = append(first, "!!!!"...)
	holds(t, "written over what was told", d, 10, "ab", "cd")
	if string(second) != "abcd" {
		t.Errorf("the second list is %q", second)
	}
	d.Append([]byte("ef"))
	_ = append(second, "!!"...)
	holds(t, "written behind what was told", d, 10, "ab", "cdef")
	d.Cut(1)
	d.Append([]byte("XYZ"))
	d.Replace([]byte("12345"))
	d.Crash(0)
	if string(first) != "????" || string(second) != "abcd" {
		t.Errorf("what was told is %q, %q", first, second)
	}
	whole := d.Bytes()
	d.Replace(whole)
	copy(whole, "?????")
	holds(t, "replaced by what was told", d, 10, "12345", "")
}

// P6.2, R2: what a list has behind what was told is nothing of the file.
func TestBehindTold(t *testing.T) {
	d := file(t, 100, "ab", "secret")
	d.Cut(2)
	told := d.Bytes()
	if behind := told[len(told):cap(told)]; bytes.Contains(behind, []byte("s")) {
		t.Errorf("behind what was told stands %q", behind)
	}
}

// P6.1, P6.2: files keep to themselves.
func TestApart(t *testing.T) {
	x, y := file(t, 10, "ab", "cd"), file(t, 5, "uv", "w")
	x.Append([]byte("ef"))
	x.Crash(1)
	holds(t, "the other file", y, 5, "uv", "w")
	y.Cut(1)
	holds(t, "the one file", x, 10, "abc", "")
	y.Replace([]byte("12345"))
	holds(t, "the one file", x, 10, "abc", "")
}

// P6.1, P6.2: asking changes nothing.
func TestAsking(t *testing.T) {
	d := file(t, 10, "ab", "cd")
	for range 3 {
		holds(t, "asked again", d, 10, "ab", "cd")
	}
}

// model says by two texts what a file has to answer.
type model struct {
	most       int
	sure, open string
}

// act is one call: a kind, a number, bytes.
type act struct {
	kind string
	n    int
	b    string
}

func (m *model) do(a act) api.Errno {
	all := m.sure + m.open
	switch a.kind {
	case "append":
		if len(all)+len(a.b) > m.most {
			return api.ErrRoom
		}
		m.open += a.b
	case "replace":
		if len(a.b) > m.most {
			return api.ErrRoom
		}
		m.sure, m.open = a.b, ""
	case "sync":
		m.sure, m.open = all, ""
	case "cut":
		if a.n < 0 || a.n > len(all) {
			return api.ErrArg
		}
		m.sure, m.open = all[:a.n], ""
	case "crash":
		m.sure, m.open = m.sure+m.open[:kept(a.n, len(m.open))], ""
	}
	return api.OK
}

func do(d *Disk, a act) api.Errno {
	switch a.kind {
	case "append":
		return d.Append([]byte(a.b))
	case "replace":
		return d.Replace([]byte(a.b))
	case "sync":
		return d.Sync()
	case "cut":
		return d.Cut(a.n)
	case "crash":
		d.Crash(a.n)
	}
	return api.OK
}

// follow does a row of calls, and holds each answer against the model's.
func follow(t *testing.T, most int, row []act) {
	t.Helper()
	d, m := New(most), &model{most: most}
	for i, a := range row {
		got, want := do(d, a), m.do(a)
		if got != want {
			t.Fatalf("room %d, %#v: %d, want %d", most, row[:i+1], got, want)
		}
		holds(t, fmt.Sprintf("room %d, %#v", most, row[:i+1]), d, most, m.sure, m.open)
		if t.Failed() {
			t.FailNow()
		}
	}
}

// P6.1, P6.2: every row of four calls, in small files.
func TestAllRows(t *testing.T) {
	acts := []act{
		{"append", 0, ""}, {"append", 0, "a"}, {"append", 0, "bcd"},
		{"replace", 0, ""}, {"replace", 0, "xy"}, {"replace", 0, "wxyz"},
		{"sync", 0, ""},
		{"cut", -1, ""}, {"cut", 0, ""}, {"cut", 1, ""}, {"cut", 3, ""},
		{"crash", 0, ""}, {"crash", 1, ""}, {"crash", -1, ""}, {"crash", math.MinInt, ""},
	}
	for _, most := range []int{0, 1, 3, 4} {
		n := len(acts)
		for left := range n * n * n * n {
			row := []act{acts[left%n], acts[left/n%n], acts[left/n/n%n], acts[left/n/n/n]}
			follow(t, most, row)
		}
	}
}

// anyAct makes up a call.
func anyAct(r *rand.Rand) act {
	kinds := []string{"append", "append", "append", "replace", "sync", "cut", "crash", "crash"}
	a := act{kind: kinds[r.Intn(len(kinds))], n: r.Intn(40) - 3}
	if a.kind == "crash" && r.Intn(2) == 0 {
		a.n = int(r.Uint64())
	}
	b := make([]byte, r.Intn(14))
	r.Read(b)
	a.b = string(b)
	return a
}

// P6.1, P6.2: long rows of calls that were made up.
func TestLongRows(t *testing.T) {
	r := rand.New(rand.NewSource(6))
	for range 300 {
		var row []act
		for range 60 {
			row = append(row, anyAct(r))
		}
		follow(t, r.Intn(40), row)
	}
}

// P6.3: through any crash what is sure stays, and what is behind it is a beginning of what was appended.
func TestSureStays(t *testing.T) {
	r := rand.New(rand.NewSource(63))
	for range 2000 {
		d := New(r.Intn(64))
		for range r.Intn(20) {
			do(d, anyAct(r))
		}
		d.Sync()
		sure, added := string(d.Bytes()), ""
		for range r.Intn(5) {
			b := anyAct(r).b
			if d.Append([]byte(b)) == api.OK {
				added += b
			}
		}
		if d.Sure() != len(sure) {
			t.Fatalf("sure are %d of %q", d.Sure(), sure)
		}
		d.Crash(int(r.Uint64()))
		got := string(d.Bytes())
		if !strings.HasPrefix(got, sure) || !strings.HasPrefix(sure+added, got) {
			t.Fatalf("%q, behind it %q; behind a crash %q", sure, added, got)
		}
		d.Crash(int(r.Uint64()))
		if again := string(d.Bytes()); again != got {
			t.Fatalf("%q, behind a second crash %q", got, again)
		}
	}
}

// P6.3: each beginning of what was appended, none and all among them, comes of some crash.
func TestEachBeginning(t *testing.T) {
	seen := map[string]int{}
	for pick := range 5 {
		d := file(t, 8, "ab", "wx")
		d.Append([]byte("yz"))
		d.Crash(pick)
		seen[string(d.Bytes())]++
	}
	for _, want := range []string{"ab", "abw", "abwx", "abwxy", "abwxyz"} {
		if seen[want] != 1 {
			t.Errorf("%q came %d times", want, seen[want])
		}
	}
}
