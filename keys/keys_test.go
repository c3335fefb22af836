package keys

import (
	"encoding/hex"
	"hash/fnv"
	"math"
	"math/rand"
	"strings"
	"testing"

	"tattler/api"
)

// mixed is the number of some bytes by the document's words, on the library's FNV-1a.
func mixed(b ...byte) uint32 {
	h := fnv.New32a()
	h.Write(b)
	n := h.Sum32()
	n ^= n >> 15
	n *= 0x85ebca6b
	return n ^ n>>13
}

// stands tells whether a byte stands in a text as it is.
func stands(b byte) bool {
	return strings.IndexByte("abcdefghijklmnopqrstuvwxyz0123456789", b) >= 0
}

// single is the text of one byte by the document's words.
func single(b byte) string {
	if stands(b) {
		return string(rune(b))
	}
	return "%" + hex.EncodeToString([]byte{b})
}

// singles is the texts of all single bytes.
func singles() map[string]byte {
	all := map[string]byte{}
	for i := range 256 {
		all[single(byte(i))] = byte(i)
	}
	return all
}

// text is the text of a key by the document's words.
func text(key string) string {
	var out strings.Builder
	for _, b := range []byte(key) {
		out.WriteString(single(b))
	}
	return out.String()
}

// every is all bytes, one behind the other.
func every() string {
	var all [256]byte
	for i := range all {
		all[i] = byte(i)
	}
	return string(all[:])
}

// random is a key of at most 40 bytes: of all bytes, or of those around the edges of what stands as it is.
func random(r *rand.Rand) string {
	const edges = "`az{/09:%&$Z\x00\x7f\x80\xff"
	b := make([]byte, r.Intn(41))
	for i := range b {
		b[i] = byte(r.Intn(256))
		if r.Intn(2) == 0 {
			b[i] = edges[r.Intn(len(edges))]
		}
	}
	return string(b)
}

// P9.1: a key may have 1 to MaxKey bytes, whatever they are; bytes count, not runes.
func TestMay(t *testing.T) {
	for _, c := range []struct {
		key  string
		want bool
	}{
		{"", false}, {"a", true}, {"\x00", true}, {"\xff", true}, {"%", true}, {"ab", true},
		{strings.Repeat("a", api.MaxKey-1), true}, {strings.Repeat("a", api.MaxKey), true},
		{strings.Repeat("a", api.MaxKey+1), false}, {strings.Repeat("a", 2*api.MaxKey), false},
		{strings.Repeat("\xff", api.MaxKey), true}, {strings.Repeat("\x00", api.MaxKey+1), false},
		{strings.Repeat("é", api.MaxKey/2), true}, {strings.Repeat("é", api.MaxKey/2+1), false},
		{strings.Repeat("a", 1<<20), false},
	} {
		if got := May(c.key); got != c.want {
			t.Errorf("May(%.40q), of %d bytes: %v", c.key, len(c.key), got)
		}
	}
}

// P9.1: a bucket is the sum of all bytes, as numbers without a sign, modulo Buckets.
func TestBucket(t *testing.T) {
	for _, c := range []struct {
		key  string
		want int
	}{
		{"", 0}, {"ab", 3}, {"ba", 3}, {"a", 1}, {"\x00", 0}, {"\x03", 3}, {"\x04", 0}, {"\x05", 1},
		{"\x03\x01", 0}, {"\x03\x02", 1}, {"\x03\x03\x03", 1}, {"\xff", 3}, {"\xff\xff", 2},
		{"\x7f\x01", 0}, {"\x80\x03", 3}, {"é", 0},
		{strings.Repeat("\xff", 32), 0}, {strings.Repeat("\xff", 33), 3},
		{strings.Repeat("\x01", 1<<20), 0}, {strings.Repeat("\x01", 1<<20+2), 2},
	} {
		if got := Bucket(c.key); got != c.want {
			t.Errorf("Bucket(%.40q) = %d; want %d", c.key, got, c.want)
		}
	}
	for i := range 256 {
		if got := Bucket(string([]byte{byte(i)})); got != i%api.Buckets {
			t.Errorf("Bucket of the byte %d = %d", i, got)
		}
	}
	r := rand.New(rand.NewSource(1))
	for range 2000 {
		key, sum := random(r), 0
		for _, b := range []byte(key) {
			sum += int(b)
		}
		if got := Bucket(key); got != sum%api.Buckets {
			t.Errorf("Bucket(%q) = %d; the sum is %d", key, got, sum)
		}
	}
}

// P9.1: a place is the mix of the key's bytes.
func TestPlace(t *testing.T) {
	rows := []string{
		"", "a", "b", "ab", "ba", "a\x00", "\x00a", "\x00", "\x00\x00", "A", "\x80", "\xff", "é", "%61",
		"key1", "key2", "1key", strings.Repeat("a", 31), strings.Repeat("a", 32), strings.Repeat("a", 33), every(),
		strings.Repeat("a", 1<<20),
	}
	seen := map[uint32]string{}
	for _, key := range rows {
		got := Place(key)
		if got != mixed([]byte(key)...) {
			t.Errorf("Place(%.40q) = %08x; want %08x", key, got, mixed([]byte(key)...))
		}
		if other, ok := seen[got]; ok {
			t.Errorf("Place(%.40q) is that of %.40q", key, other)
		}
		seen[got] = key
	}
	r := rand.New(rand.NewSource(2))
	for range 2000 {
		if key := random(r); Place(key) != mixed([]byte(key)...) {
			t.Errorf("Place(%q) = %08x", key, Place(key))
		}
	}
}

// P9.1: a point is the mix of four bytes; of the node and of the number only the lowest eight bits count.
func TestPoint(t *testing.T) {
	edges := []int{
		math.MinInt, math.MinInt + 1, -1 << 32, -257, -256, -255, -128, -2, -1, 0, 1, 2, 7, 8, 'n', 'p', 127, 128,
		254, 255, 256, 257, 511, 512, 1 << 31, 1<<32 - 1, 1 << 32, math.MaxInt - 1, math.MaxInt,
	}
	for _, node := range edges {
		for _, k := range edges {
			low := func(n int) byte { return byte(uint64(n) % 256) }
			if got, want := Point(node, k), mixed('n', low(node), 'p', low(k)); got != want {
				t.Errorf("Point(%d, %d) = %08x; want %08x", node, k, got, want)
			}
		}
	}
	for _, c := range [][4]int{{-1, 257, 255, 1}, {256, -256, 0, 0}, {math.MaxInt, math.MinInt, 255, 0}} {
		if Point(c[0], c[1]) != Point(c[2], c[3]) {
			t.Errorf("Point(%d, %d) is not Point(%d, %d)", c[0], c[1], c[2], c[3])
		}
	}
	if Point(3, 2) == Point(2, 3) || Point(3, 2) != Place("n\x03p\x02") {
		t.Error("the node and the number stand in their order")
	}
}

// P9.2: a to z and 0 to 9 stand as they are, each other byte as a mark and two digits; Parse is the way back.
func TestText(t *testing.T) {
	for _, c := range []struct{ key, want string }{
		{"", ""}, {"a/b", "a%2fb"}, {"a", "a"}, {"z", "z"}, {"0", "0"}, {"9", "9"}, {"az09", "az09"},
		{"`", "%60"}, {"{", "%7b"}, {"/", "%2f"}, {":", "%3a"}, {"A", "%41"}, {"Z", "%5a"}, {"@", "%40"}, {"[", "%5b"},
		{"%", "%25"}, {"%%", "%25%25"}, {"%41", "%2541"}, {"%2f", "%252f"}, {" ", "%20"}, {"\n", "%0a"}, {"\x00", "%00"},
		{"\x7f", "%7f"}, {"\x80", "%80"}, {"\x9f", "%9f"}, {"\xa0", "%a0"}, {"\xff", "%ff"}, {"é", "%c3%a9"},
		{"\x00\xff%", "%00%ff%25"}, {"a b", "a%20b"}, {"-", "%2d"}, {"_", "%5f"}, {".", "%2e"},
		{strings.Repeat("\xfe", 32), strings.Repeat("%fe", 32)}, {strings.Repeat("a", 1000), strings.Repeat("a", 1000)},
	} {
		if got := Text(c.key); got != c.want {
			t.Errorf("Text(%.40q) = %.40q; want %.40q", c.key, got, c.want)
		}
		if key, ok := Parse(c.want); !ok || key != c.key {
			t.Errorf("Parse(%.40q) = %.40q, %v; want %.40q", c.want, key, ok, c.key)
		}
	}
}

// P9.2, P9.3: of every single byte, and of it between others, the text is the document's, and Parse of it is the key.
func TestBytes(t *testing.T) {
	for i := range 256 {
		b := string([]byte{byte(i)})
		for _, key := range []string{b, b + b, "a" + b, b + "a", "0" + b + "%", b + every()} {
			s := Text(key)
			if s != text(key) {
				t.Errorf("Text(%.40q) = %.40q; want %.40q", key, s, text(key))
			}
			if back, ok := Parse(s); !ok || back != key {
				t.Errorf("Parse(%.40q) = %.40q, %v; want %.40q", s, back, ok, key)
			}
		}
	}
}

// P9.3: Parse of Text is the key, for keys of many bytes.
func TestBack(t *testing.T) {
	r := rand.New(rand.NewSource(3))
	rows := []string{"", every(), strings.Repeat("%", 33), strings.Repeat("a/", 1<<16)}
	for range 5000 {
		rows = append(rows, random(r))
	}
	for _, key := range rows {
		if back, ok := Parse(Text(key)); !ok || back != key || Text(key) != text(key) {
			t.Errorf("%.40q: the text %.40q, and back %.40q, %v", key, Text(key), back, ok)
		}
	}
}

// refuses holds Parse of s to be nothing and false.
func refuses(t *testing.T, s string) {
	t.Helper()
	if key, ok := Parse(s); ok || key != "" {
		t.Errorf("Parse(%.40q) = %.40q, %v", s, key, ok)
	}
}

// P9.2: what is no text of a key is refused, wherever in the text it stands.
func TestParseRefuses(t *testing.T) {
	for _, s := range []string{
		"A", "Z", "F", " ", "-", "/", ":", "`", "{", "@", "[", "\x00", "\x7f", "\x80", "\xff", "é", "+", "&", "$",
		"%", "%2", "%f", "%a", "%%", "%%%", "%%25", "%2%25", "% 2f", "%2 f", "%2g", "%g2", "%zz", "%-1", "%+2", "%0x",
		"%2F", "%C3", "%fF", "%Ff", "%FF", "%aA", "%2/", "%2:", "%/2", "%:2", "%2`", "%`2", "%2@", "%@2", "%2G", "%é",
		"%61", "%7a", "%30", "%39", "%6d", "%35", "%62", "%79", "%31", "%38", "%\x002", "%2\x00", "%\xff\xff",
	} {
		for _, ahead := range []string{"", "a", "%2f", "%00%ff"} {
			refuses(t, ahead+s)
			// Behind a torn mark a letter may make it whole: what cannot be mended by it stays refused.
			for _, behind := range []string{"/", "/a", "%41/"} {
				refuses(t, ahead+s+behind)
			}
		}
	}
}

// P9.2: of all texts of one byte, and of all that are a mark and two bytes, just those of the document are some.
func TestParseAll(t *testing.T) {
	texts := singles()
	check := func(s string) {
		key, ok := Parse(s)
		b, want := texts[s]
		if ok != want || ok && key != string([]byte{b}) || !ok && key != "" {
			t.Errorf("Parse(%q) = %q, %v", s, key, ok)
		}
	}
	for i := range 256 {
		check(string([]byte{byte(i)}))
		check("%" + string([]byte{byte(i)}))
		for j := range 256 {
			check("%" + string([]byte{byte(i), byte(j)}))
		}
	}
}

// P9.2: of random texts Parse takes just those that are texts of single bytes one behind the other, and each is the text of what it took.
func TestParseOnce(t *testing.T) {
	const letters = "%%%%%0123456789abcdefgzAF/"
	r := rand.New(rand.NewSource(4))
	all, taken := singles(), 0
	for range 200000 {
		b := make([]byte, r.Intn(8))
		for i := range b {
			b[i] = letters[r.Intn(len(letters))]
		}
		s := string(b)
		key, ok := Parse(s)
		if ok {
			taken++
		}
		if ok != isText(s, all) || ok && text(key) != s || !ok && key != "" {
			t.Errorf("Parse(%q) = %q, %v", s, key, ok)
		}
	}
	if taken < 1000 {
		t.Errorf("only %d texts were some", taken)
	}
}

// isText tells whether s is texts of single bytes, one behind the other.
func isText(s string, all map[string]byte) bool {
	for len(s) > 0 {
		size := 1
		if s[0] == '%' {
			size = 3
		}
		if len(s) < size {
			return false
		}
		if _, ok := all[s[:size]]; !ok {
			return false
		}
		s = s[size:]
	}
	return true
}
