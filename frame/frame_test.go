package frame

import (
	"bytes"
	"encoding/binary"
	"encoding/hex"
	"fmt"
	"hash/crc32"
	"math"
	"math/rand"
	"slices"
	"strings"
	"testing"

	"tattler/api"
	"tattler/lazy"
)

// head is eight bytes of a length and a sum.
func head(length, sum uint32) string {
	b := binary.BigEndian.AppendUint32(nil, length)
	return string(binary.BigEndian.AppendUint32(b, sum))
}

// framed is a record with its head, by the library's own sum.
func framed(r string) string {
	return head(uint32(len(r)), crc32.ChecksumIEEE([]byte(r))) + r
}

// row is records one behind the other.
func row(records ...string) string {
	var b strings.Builder
	for _, r := range records {
		b.WriteString(framed(r))
	}
	return b.String()
}

// fill is n bytes that are not all alike.
func fill(n int) string {
	return strings.Repeat("abcdefg", n/7+1)[:n]
}

// put is Put of what may be.
func put(t *testing.T, b, r string) string {
	t.Helper()
	out, err := Put([]byte(b), []byte(r))
	if err != api.OK {
		t.Fatalf("Put(%.20q, %.20q): %d", b, r, err)
	}
	return string(out)
}

// takes says whether Take of b tells this.
func takes(t *testing.T, what, b, want string, bytes int, wantErr api.Errno) {
	t.Helper()
	r, n, err := Take([]byte(b))
	if string(r) != want || n != bytes || err != wantErr {
		t.Errorf("%s: Take = %.40q, %d, %d; want %.40q, %d, %d", what, r, n, err, want, bytes, wantErr)
	}
}

// tells says whether All of b tells this.
func tells(t *testing.T, what, b string, want []string, bytes int, wantErr api.Errno) {
	t.Helper()
	records, n, err := All([]byte(b))
	if !slices.Equal(texts(records), want) || n != bytes || err != wantErr {
		t.Errorf("%s: All = %.80q, %d, %d; want %.80q, %d, %d", what, records, n, err, want, bytes, wantErr)
	}
}

// texts is the records as texts.
func texts(records [][]byte) []string {
	var out []string
	for _, r := range records {
		out = append(out, string(r))
	}
	return out
}

// P7.1: b, the length, the sum, the record: byte by byte.
func TestPut(t *testing.T) {
	for _, c := range []struct{ b, r, want string }{
		{"", "", "0000000000000000"},
		{"", "123456789", "00000009cbf43926313233343536373839"},
		{"", "a", "00000001e8b7be4361"},
		{"", "\x00", "00000001d202ef8d00"},
		{"", "\xff\xff\xff\xff", "00000004ffffffffffffffff"},
		{"xy", "", "78790000000000000000"},
		{"xy", "a", "787900000001e8b7be4361"},
		{"\x00", "a", "0000000001e8b7be4361"},
		{"\xff\xff\xff\xff\xff\xff\xff\xff", "a", "ffffffffffffffff00000001e8b7be4361"},
		{framed("a"), "a", "00000001e8b7be436100000001e8b7be4361"},
	} {
		if got := hex.EncodeToString([]byte(put(t, c.b, c.r))); got != c.want {
			t.Errorf("Put(%q, %q) = %s, want %s", c.b, c.r, got, c.want)
		}
	}
}

// P7.1: lengths whose bytes differ stand the highest byte first; the sum is lazy's, which is the library's too.
func TestPutLengths(t *testing.T) {
	for _, n := range []int{0, 1, 2, 127, 128, 255, 256, 257, 511, 512, 4096, 32767, 32768, 59999, 60000} {
		r := fill(n)
		for _, b := range []string{"", "x", row("a", "b")} {
			got := put(t, b, r)
			if got != b+framed(r) {
				t.Errorf("Put of %d bytes behind %d: %x", n, len(b), got[:len(b)+8])
			}
			if sum := head(uint32(n), lazy.Sum(lazy.Poly(), []byte(r))); got[len(b):len(b)+8] != sum {
				t.Errorf("Put of %d bytes: head %x, want %x", n, got[len(b):len(b)+8], sum)
			}
		}
	}
}

// P7.1: MaxBytes may be, one more may not, whatever stands ahead; how much stands ahead is not bounded.
func TestPutMost(t *testing.T) {
	if api.MaxBytes != 60000 {
		t.Errorf("MaxBytes is %d", api.MaxBytes)
	}
	for _, ahead := range []int{0, 1, 8, 60000, 60001, 200000} {
		b := fill(ahead)
		for _, n := range []int{60000 - 1, 60000} {
			if got := put(t, b, fill(n)); got != b+framed(fill(n)) {
				t.Errorf("Put of %d bytes behind %d: %d bytes", n, ahead, len(got))
			}
		}
		for _, n := range []int{60000 + 1, 65536, 65537, 131072, 1 << 20} {
			if got, err := Put([]byte(b), []byte(fill(n))); got != nil || err != api.ErrLong {
				t.Errorf("Put of %d bytes behind %d: %d bytes, %d", n, ahead, len(got), err)
			}
		}
	}
}

// P7.1, P7.2, R2: nil and empty lists are one.
func TestNil(t *testing.T) {
	for _, b := range [][]byte{nil, {}} {
		for _, r := range [][]byte{nil, {}} {
			if got, err := Put(b, r); string(got) != strings.Repeat("\x00", 8) || err != api.OK {
				t.Errorf("Put of nothing behind nothing: %x, %d", got, err)
			}
			if got, err := Put([]byte("xy"), r); string(got) != "xy"+strings.Repeat("\x00", 8) || err != api.OK {
				t.Errorf("Put of nothing: %x, %d", got, err)
			}
		}
		if got, err := Put(b, []byte("a")); string(got) != framed("a") || err != api.OK {
			t.Errorf("Put behind nothing: %x, %d", got, err)
		}
		if got, err := Put(b, make([]byte, 60001)); got != nil || err != api.ErrLong {
			t.Errorf("Put of too many behind nothing: %d bytes, %d", len(got), err)
		}
		if r, n, err := Take(b); len(r) != 0 || n != 0 || err != api.ErrShort {
			t.Errorf("Take of nothing: %q, %d, %d", r, n, err)
		}
		if records, n, err := All(b); len(records) != 0 || n != 0 || err != api.OK {
			t.Errorf("All of nothing: %q, %d, %d", records, n, err)
		}
	}
}

// P7.2: Take tells the first record and its bytes, or the first error that its sentence lists.
func TestTake(t *testing.T) {
	zeros := strings.Repeat("\x00", 8)
	most := fill(60000)
	for _, c := range []struct {
		what, b, want string
		bytes         int
		err           api.Errno
	}{
		{"nothing", "", "", 0, api.ErrShort},
		{"a byte", "\x00", "", 0, api.ErrShort},
		{"seven bytes", zeros[:7], "", 0, api.ErrShort},
		{"seven bytes, a length that may not be", strings.Repeat("\xff", 7), "", 0, api.ErrShort},
		{"eight bytes, an empty record", zeros, "", 8, api.OK},
		{"eight bytes, a wrong sum", head(0, 1), "", 0, api.ErrForm},
		{"eight bytes, a wrong sum, high", head(0, 1<<31), "", 0, api.ErrForm},
		{"eight bytes, a record of one", framed("a")[:8], "", 0, api.ErrShort},
		{"eight bytes, a length that may not be", strings.Repeat("\xff", 8), "", 0, api.ErrLong},
		{"a record", framed("a"), "a", 9, api.OK},
		{"a record of no letters", framed("\x00\xff\x80\n"), "\x00\xff\x80\n", 12, api.OK},
		{"a record with bytes behind", framed("a") + "xyz", "a", 9, api.OK},
		{"a record with a record behind", row("a", "bc"), "a", 9, api.OK},
		{"a record with a wrong one behind", framed("a") + head(1, 0) + "b", "a", 9, api.OK},
		{"an empty record with bytes behind", zeros + "xyz", "", 8, api.OK},
		{"a record in a record", framed(framed("a")), framed("a"), 17, api.OK},
		{"a wrong sum", head(1, 0) + "a", "", 0, api.ErrForm},
		{"a wrong sum, the right one behind", head(1, 0) + "a" + framed("a"), "", 0, api.ErrForm},
		{"a record of 300 bytes", framed(fill(300)), fill(300), 308, api.OK},
		{"a record that lacks its last byte", framed(fill(300))[:307], "", 0, api.ErrShort},
		{"a record that lacks all", framed(fill(300))[:8], "", 0, api.ErrShort},
		{"a wrong sum, and not whole", head(3, 0) + "ab", "", 0, api.ErrShort},
		{"MaxBytes", framed(most), most, 60008, api.OK},
		{"MaxBytes, and more behind", framed(most) + "x", most, 60008, api.OK},
		{"MaxBytes, less one", framed(most)[:60007], "", 0, api.ErrShort},
		{"MaxBytes, and none there", framed(most)[:8], "", 0, api.ErrShort},
		{"MaxBytes, a wrong sum", head(60000, 0) + most, "", 0, api.ErrForm},
		{"above MaxBytes", framed(most + "x"), "", 0, api.ErrLong},
		{"above MaxBytes, and none there", head(60001, 0), "", 0, api.ErrLong},
		{"above MaxBytes, and one less", framed(most + "x")[:60008], "", 0, api.ErrLong},
		{"2^16", framed(fill(1 << 16)), "", 0, api.ErrLong},
		{"2^24", head(1<<24, 0), "", 0, api.ErrLong},
		{"2^31 - 1", head(math.MaxInt32, 0), "", 0, api.ErrLong},
		{"2^31", head(1<<31, 0), "", 0, api.ErrLong},
		{"2^32 - 1", head(math.MaxUint32, 0), "", 0, api.ErrLong},
		{"2^32 - 8", head(math.MaxUint32-7, 0), "", 0, api.ErrLong},
	} {
		takes(t, c.what, c.b, c.want, c.bytes, c.err)
	}
}

// P7.2: of a record each beginning but the whole is short.
func TestTakeBeginnings(t *testing.T) {
	for _, r := range []string{"", "a", "123456789", fill(300)} {
		b := framed(r)
		for n := range len(b) {
			takes(t, fmt.Sprintf("%d of %d bytes", n, len(b)), b[:n], "", 0, api.ErrShort)
		}
		takes(t, "the whole", b, r, len(b), api.OK)
	}
}

// P7.2: each byte of the sum and of the record that is another one is told.
func TestTakeOtherBytes(t *testing.T) {
	for _, r := range []string{"", "a", "\x00\x00", "123456789"} {
		good := framed(r)
		for at := 4; at < len(good); at++ {
			for by := 1; by < 256; by++ {
				b := []byte(good)
				b[at] ^= byte(by)
				takes(t, fmt.Sprintf("%q, byte %d", r, at), string(b), "", 0, api.ErrForm)
				takes(t, fmt.Sprintf("%q, byte %d, and more", r, at), string(b)+good, "", 0, api.ErrForm)
			}
		}
	}
}

// P7.2: a length that is another one is long, short, or has another sum.
func TestTakeOtherLengths(t *testing.T) {
	r := "123456789"
	good := framed(r) + framed("more")
	for _, c := range []struct {
		length uint32
		want   api.Errno
	}{
		{0, api.ErrForm},
		{8, api.ErrForm},
		{10, api.ErrForm},
		{uint32(len(good)) - 8, api.ErrForm},
		{uint32(len(good)) - 7, api.ErrShort},
		{uint32(len(good)), api.ErrShort},
		{9 << 8, api.ErrShort},
		{60000, api.ErrShort},
		{60001, api.ErrLong},
		{9 << 16, api.ErrLong},
		{9 << 24, api.ErrLong},
		{1<<16 | 9, api.ErrLong},
		{1<<24 | 9, api.ErrLong},
		{1<<31 | 9, api.ErrLong},
	} {
		b := binary.BigEndian.AppendUint32(nil, c.length)
		takes(t, fmt.Sprintf("length %d", c.length), string(b)+good[4:], "", 0, c.want)
	}
}

// P7.2: All tells the records up to the first error; that the end is not whole is none.
func TestAll(t *testing.T) {
	two := row("a", "bc")
	for _, c := range []struct {
		what, b string
		want    []string
		bytes   int
		err     api.Errno
	}{
		{"nothing", "", nil, 0, api.OK},
		{"seven bytes", strings.Repeat("\xff", 7), nil, 0, api.OK},
		{"eight bytes, an empty record", row(""), []string{""}, 8, api.OK},
		{"empty records", row("", "", ""), []string{"", "", ""}, 24, api.OK},
		{"a record", row("a"), []string{"a"}, 9, api.OK},
		{"two", two, []string{"a", "bc"}, 19, api.OK},
		{"two that are alike", row("a", "a"), []string{"a", "a"}, 18, api.OK},
		{"empty ones between", row("", "a", "", "bc", ""), []string{"", "a", "", "bc", ""}, 43, api.OK},
		{"in the order of the bytes", row("c", "a", "b"), []string{"c", "a", "b"}, 27, api.OK},
		{"a record in a record", row(two, "d"), []string{two, "d"}, 36, api.OK},
		{"the greatest", row("a", fill(60000), "b"), []string{"a", fill(60000), "b"}, 60026, api.OK},
		{"three bytes behind", row("x") + "abc", []string{"x"}, 9, api.OK},
		{"seven bytes behind", two + strings.Repeat("\xff", 7), []string{"a", "bc"}, 19, api.OK},
		{"a head behind", two + framed("d")[:8], []string{"a", "bc"}, 19, api.OK},
		{"one behind that lacks its last byte", two + framed("def")[:10], []string{"a", "bc"}, 19, api.OK},
		{"one behind of MaxBytes, not whole", two + head(60000, 0), []string{"a", "bc"}, 19, api.OK},
		{"not whole, a wrong sum", two + head(3, 0) + "ab", []string{"a", "bc"}, 19, api.OK},
		{"not whole, that takes in a record", head(100, 0) + two, nil, 0, api.OK},
		{"a wrong sum behind", two + head(1, 0) + "d", []string{"a", "bc"}, 19, api.ErrForm},
		{"a wrong sum behind, of an empty one", two + head(0, 1), []string{"a", "bc"}, 19, api.ErrForm},
		{"a wrong sum first", head(1, 0) + "d" + two, nil, 0, api.ErrForm},
		{"a wrong sum between", row("a") + head(1, 0) + "d" + row("bc"), []string{"a"}, 9, api.ErrForm},
		{"a wrong sum of the greatest", row("a") + head(60000, 0) + fill(60000), []string{"a"}, 9, api.ErrForm},
		{"a long one behind", two + head(60001, 0), []string{"a", "bc"}, 19, api.ErrLong},
		{"a long one behind, whole", two + framed(fill(60001)), []string{"a", "bc"}, 19, api.ErrLong},
		{"a long one first", head(math.MaxUint32, 0) + two, nil, 0, api.ErrLong},
		{"a long one between", row("a") + head(1<<31, 0) + row("bc"), []string{"a"}, 9, api.ErrLong},
		{"a wrong sum, then a long one", two + head(1, 0) + "d" + head(60001, 0), []string{"a", "bc"}, 19, api.ErrForm},
		{"a long one, then a wrong sum", two + head(60001, 0) + head(1, 0) + "d", []string{"a", "bc"}, 19, api.ErrLong},
	} {
		tells(t, c.what, c.b, c.want, c.bytes, c.err)
	}
}

// P7.2: All of many records, and of a file full of the shortest.
func TestAllMany(t *testing.T) {
	var want []string
	for n := range 700 {
		want = append(want, fill(n))
	}
	b := row(want...)
	tells(t, "records of all lengths", b, want, len(b), api.OK)
	records, n, err := All(make([]byte, api.MaxFile))
	if len(records) != api.MaxFile/8 || n != api.MaxFile || err != api.OK {
		t.Errorf("a file of noughts: %d records, %d, %d", len(records), n, err)
	}
}

// P7.3: All of what was Put is what was Put; of each beginning of it the records that are whole.
func TestBeginnings(t *testing.T) {
	given := []string{"x", "", "123456789", "", fill(300), "\x00\x00\x00", row("x", "y")}
	var b string
	ends := []int{0}
	for _, r := range given {
		b = put(t, b, r)
		ends = append(ends, len(b))
	}
	for n := range len(b) + 1 {
		whole := 0
		for whole+1 < len(ends) && ends[whole+1] <= n {
			whole++
		}
		tells(t, fmt.Sprintf("%d of %d bytes", n, len(b)), b[:n], given[:whole], ends[whole], api.OK)
	}
}

// P7.3: with the greatest record too, at each end.
func TestBeginningsOfGreatest(t *testing.T) {
	most := fill(60000)
	b := put(t, put(t, put(t, "", "x"), most), "y")
	for _, c := range []struct {
		n     int
		want  []string
		bytes int
	}{
		{len(b), []string{"x", most, "y"}, 60026},
		{len(b) - 1, []string{"x", most}, 60017},
		{60017, []string{"x", most}, 60017},
		{60016, []string{"x"}, 9},
		{18, []string{"x"}, 9},
		{17, []string{"x"}, 9},
		{16, []string{"x"}, 9},
		{9, []string{"x"}, 9},
		{8, nil, 0},
	} {
		tells(t, fmt.Sprintf("%d bytes", c.n), b[:c.n], c.want, c.bytes, api.OK)
	}
}

// P7.3: records of random bytes are told as they were Put, and Take walks over them one by one.
func TestRandomRecords(t *testing.T) {
	rnd := rand.New(rand.NewSource(7))
	for range 300 {
		var b string
		var want []string
		for range rnd.Intn(8) {
			r := make([]byte, rnd.Intn(1<<rnd.Intn(12)))
			rnd.Read(r)
			want = append(want, string(r))
			b = put(t, b, string(r))
		}
		tells(t, "random records", b, want, len(b), api.OK)
		at := 0
		for _, r := range want {
			takes(t, "random record", b[at:], r, 8+len(r), api.OK)
			at += 8 + len(r)
		}
	}
}

// first is Take by the document's words, sentence by sentence.
func first(b string) (string, int, api.Errno) {
	if len(b) < 8 {
		return "", 0, api.ErrShort
	}
	n := int64(binary.BigEndian.Uint32([]byte(b[:4])))
	if n > 60000 {
		return "", 0, api.ErrLong
	}
	if int64(len(b)) < 8+n {
		return "", 0, api.ErrShort
	}
	if r := b[8 : 8+n]; crc32.ChecksumIEEE([]byte(r)) == binary.BigEndian.Uint32([]byte(b[4:8])) {
		return r, int(8 + n), api.OK
	}
	return "", 0, api.ErrForm
}

// every is All by the document's words.
func every(b string) ([]string, int, api.Errno) {
	var records []string
	size := 0
	for {
		r, n, err := first(b[size:])
		if err == api.ErrShort {
			err = api.OK
			n = 0
		}
		if n == 0 {
			return records, size, err
		}
		records = append(records, r)
		size += n
	}
}

// spoil changes b somewhere: a byte, its end, or something in its middle.
func spoil(rnd *rand.Rand, b string) string {
	at := rnd.Intn(len(b) + 1)
	switch rnd.Intn(4) {
	case 0:
		return b[:at]
	case 1:
		return b[:at] + string([]byte{byte(rnd.Intn(256))}) + b[at:]
	case 2:
		return b[:at] + head(uint32(59990+rnd.Intn(20)), rnd.Uint32()) + b[at:]
	}
	if at == len(b) {
		return b
	}
	return b[:at] + string([]byte{b[at] ^ 1<<rnd.Intn(8)}) + b[at+1:]
}

// P7.2: bytes that are no row any more are told as the document's words say.
func TestSpoilt(t *testing.T) {
	rnd := rand.New(rand.NewSource(77))
	met := map[api.Errno]int{}
	for range 20000 {
		var b string
		for range rnd.Intn(6) {
			r := make([]byte, rnd.Intn(6))
			rnd.Read(r)
			b += framed(string(r))
		}
		for range 1 + rnd.Intn(2) {
			b = spoil(rnd, b)
		}
		r, n, err := first(b)
		takes(t, fmt.Sprintf("%x", b), b, r, n, err)
		records, size, last := every(b)
		tells(t, fmt.Sprintf("%x", b), b, records, size, last)
		met[err]++
	}
	for _, err := range []api.Errno{api.OK, api.ErrShort, api.ErrLong, api.ErrForm} {
		if met[err] < 100 {
			t.Errorf("%d was met %d times", err, met[err])
		}
	}
}

// R2: what is handed in is not changed, by what succeeds or is refused.
func TestHandedIn(t *testing.T) {
	for _, text := range []string{"", "x", row("a", "bc"), row("a") + "xyz", row("a") + head(1, 0) + "d", row("a") + head(60001, 0), fill(60001)} {
		for _, record := range []string{"", "r", fill(60000), fill(60001)} {
			b, r := []byte(text), []byte(record)
			Put(b, r)
			Take(b)
			All(b)
			if string(b) != text || string(r) != record {
				t.Errorf("%.40q or %.40q was changed", text, record)
			}
		}
	}
}

// R2: what lies behind a list's length is neither read nor written.
func TestBehindLength(t *testing.T) {
	whole := row("a", "bc", "d")
	for n := range len(whole) {
		long := []byte(whole)
		r, size, err := Take(long[:n])
		wantR, wantSize, wantErr := first(whole[:n])
		if string(r) != wantR || size != wantSize || err != wantErr {
			t.Errorf("Take of %d: %q, %d, %d", n, r, size, err)
		}
		records, size, err := All(long[:n])
		want, wantSize, wantErr := every(whole[:n])
		if !slices.Equal(texts(records), want) || size != wantSize || err != wantErr {
			t.Errorf("All of %d: %q, %d, %d", n, records, size, err)
		}
		out, err := Put(long[:n], long[n/2:n])
		if string(out) != whole[:n]+framed(whole[n/2:n]) || err != api.OK {
			t.Errorf("Put behind %d: %x, %d", n, out, err)
		}
		if string(long) != whole {
			t.Errorf("%d: what lies behind was written: %x", n, long)
		}
	}
}

// R2: writing over what was handed in changes nothing that was told.
func TestToldApartFromHandedIn(t *testing.T) {
	b, r := []byte(row("a", "", "bc")), []byte("record")
	out, _ := Put(b, r)
	one, _, _ := Take(b)
	records, _, _ := All(b)
	alone, _ := Put(nil, r)
	same, _ := Put(b, nil)
	ruin(b)
	ruin(r)
	if string(out) != row("a", "", "bc", "record") || string(alone) != row("record") || string(same) != row("a", "", "bc", "") {
		t.Errorf("Put told %q, %q, %q", out, alone, same)
	}
	if string(one) != "a" || !slices.Equal(texts(records), []string{"a", "", "bc"}) {
		t.Errorf("told %q, %q", one, records)
	}
}

// ruin writes over all of b, and over all that lies behind it.
func ruin(b []byte) {
	b = b[:cap(b)]
	for i := range b {
		b[i] = '#'
	}
}

// R2: writing over what was told changes neither what was handed in nor what else was told.
func TestToldIsTheCallersOwn(t *testing.T) {
	text := row("a", "", "bc", "", "def")
	b := []byte(text)
	told := []string{"a", "", "bc", "", "def"}
	for i := range told {
		records, n, _ := All(b)
		again, _, _ := All(b)
		ruin(records[i])
		_ = append(records[i], "######################"...)
		for j, r := range records {
			if j != i && string(r) != told[j] {
				t.Errorf("record %d is %q behind writing over %d", j, r, i)
			}
		}
		if string(b) != text || n != len(text) || !slices.Equal(texts(again), told) {
			t.Errorf("behind writing over record %d: %q, %q", i, b, again)
		}
		tells(t, "asked again", string(b), told, len(text), api.OK)
	}
	r, _, _ := Take(b)
	ruin(r)
	_ = append(r, "######################"...)
	out, _ := Put(b, b)
	ruin(out)
	if string(b) != text {
		t.Errorf("handed in: %q", b)
	}
	takes(t, "behind all that", string(b), "a", 9, api.OK)
}

// R2: records that are told beside an error are the caller's own too.
func TestToldBesideError(t *testing.T) {
	for _, bad := range []string{head(1, 0) + "d", head(60001, 0)} {
		text := row("a", "bc") + bad
		b := []byte(text)
		records, _, _ := All(b)
		ruin(records[0])
		if string(b) != text || string(records[1]) != "bc" {
			t.Errorf("behind writing over a record: %q, %q", b, records[1])
		}
		ruin(b)
		if string(records[1]) != "bc" {
			t.Errorf("behind writing over the bytes: %q", records[1])
		}
	}
}

// R2: two lists that were Put behind the same bytes are apart, even where these have room behind them.
func TestPutTwice(t *testing.T) {
	b := make([]byte, 2, 100)
	copy(b, "xy")
	one, _ := Put(b, []byte("a"))
	two, _ := Put(b, []byte("b"))
	if string(one) != "xy"+framed("a") || string(two) != "xy"+framed("b") {
		t.Errorf("%q, %q", one, two)
	}
	ruin(two)
	if string(one) != "xy"+framed("a") || string(b) != "xy" {
		t.Errorf("%q, %q", one, b)
	}
	three, _ := Put(one, nil)
	ruin(three)
	if string(one) != "xy"+framed("a") {
		t.Errorf("%q", one)
	}
}

// R2: a record may be a part of the bytes that it is Put behind.
func TestPutOfItself(t *testing.T) {
	b := []byte(row("a", "bc"))
	for from := range len(b) {
		out, err := Put(b, b[from:])
		if want := row("a", "bc") + framed(row("a", "bc")[from:]); string(out) != want || err != api.OK {
			t.Errorf("from %d: %x, %d", from, out, err)
		}
		out, err = Put(b[:from], b)
		if want := row("a", "bc")[:from] + framed(row("a", "bc")); string(out) != want || err != api.OK {
			t.Errorf("up to %d: %x, %d", from, out, err)
		}
	}
}

// R4, R6: nothing is kept: behind any refusal the same call tells the same.
func TestNothingIsKept(t *testing.T) {
	good := row("a", "bc")
	for range 3 {
		for _, bad := range []string{"", head(1, 0) + "d", head(60001, 0), head(9, 0)} {
			Take([]byte(bad))
			All([]byte(good + bad))
			Put([]byte(good), make([]byte, 60001))
			takes(t, "behind a refusal", good, "a", 9, api.OK)
			tells(t, "behind a refusal", good, []string{"a", "bc"}, 19, api.OK)
			if got := put(t, "", "a"); got != framed("a") {
				t.Errorf("Put behind a refusal: %x", got)
			}
		}
	}
}

// R6: what many ask at a time is told to each as to one alone.
func TestManyAtATime(t *testing.T) {
	done := make(chan string)
	for i := range 16 {
		go func() {
			r := bytes.Repeat([]byte{byte(i)}, 100+i)
			b, _ := Put(nil, r)
			b, _ = Put(b, r)
			records, n, err := All(b)
			if len(records) != 2 || !bytes.Equal(records[1], r) || n != len(b) || err != api.OK {
				done <- fmt.Sprintf("%d: %d records, %d, %d", i, len(records), n, err)
				return
			}
			done <- ""
		}()
	}
	for range 16 {
		if fault := <-done; fault != "" {
			t.Error(fault)
		}
	}
}

// The chapter's example: a record x, and three bytes behind it.
func TestExample(t *testing.T) {
	tells(t, "the example", put(t, "", "x")+"abc", []string{"x"}, 9, api.OK)
}
