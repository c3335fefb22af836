package wire

import (
	"bytes"
	"encoding/binary"
	"encoding/hex"
	"fmt"
	"math"
	"math/rand"
	"testing"

	"tattler/api"
)

// written tells what a writer with room enough makes of one call.
func written(t *testing.T, write func(w *Writer)) string {
	t.Helper()
	w := NewWriter(1 << 20)
	write(w)
	b, err := w.Done()
	if err != api.OK {
		t.Fatalf("Done: %d", err)
	}
	return hex.EncodeToString(b)
}

// raw is the bytes that a text of base 16 tells.
func raw(t *testing.T, text string) []byte {
	t.Helper()
	b, err := hex.DecodeString(text)
	if err != nil {
		t.Fatal(err)
	}
	return b
}

// nums are numbers and their bytes: of each length from one to ten the ends.
var nums = []struct {
	n uint64
	b string
}{
	{0, "00"}, {1, "01"}, {127, "7f"},
	{128, "8001"}, {300, "ac02"}, {1<<14 - 1, "ff7f"},
	{1 << 14, "808001"}, {1<<21 - 1, "ffff7f"},
	{1 << 21, "80808001"}, {1<<28 - 1, "ffffff7f"},
	{1 << 28, "8080808001"}, {1<<35 - 1, "ffffffff7f"},
	{1 << 35, "808080808001"}, {1<<42 - 1, "ffffffffff7f"},
	{1 << 42, "80808080808001"}, {1<<49 - 1, "ffffffffffff7f"},
	{1 << 49, "8080808080808001"}, {1<<56 - 1, "ffffffffffffff7f"},
	{1 << 56, "808080808080808001"}, {1<<63 - 1, "ffffffffffffffff7f"},
	{1 << 63, "80808080808080808001"}, {math.MaxUint64, "ffffffffffffffffff01"},
}

// ints are whole numbers and their bytes.
var ints = []struct {
	n int64
	b string
}{
	{0, "00"}, {-1, "01"}, {1, "02"}, {-2, "03"}, {2, "04"},
	{63, "7e"}, {-64, "7f"}, {64, "8001"}, {-65, "8101"},
	{math.MaxInt64, "feffffffffffffffff01"}, {math.MinInt64, "ffffffffffffffffff01"},
	{math.MaxInt64 - 1, "fcffffffffffffffff01"}, {math.MinInt64 + 1, "fdffffffffffffffff01"},
}

// P3.1: a writer appends the forms.
func TestWritten(t *testing.T) {
	for _, c := range nums {
		if got := written(t, func(w *Writer) { w.Num(c.n) }); got != c.b {
			t.Errorf("Num(%d) = %s, want %s", c.n, got, c.b)
		}
	}
	for _, c := range ints {
		if got := written(t, func(w *Writer) { w.Int(c.n) }); got != c.b {
			t.Errorf("Int(%d) = %s, want %s", c.n, got, c.b)
		}
	}
	for _, c := range []struct {
		what  string
		write func(w *Writer)
		want  string
	}{
		{"nothing", func(w *Writer) {}, ""},
		{"true", func(w *Writer) { w.Flag(true) }, "01"},
		{"false", func(w *Writer) { w.Flag(false) }, "00"},
		{"nil text", func(w *Writer) { w.Text(nil) }, "00"},
		{"empty text", func(w *Writer) { w.Text([]byte{}) }, "00"},
		{"a text", func(w *Writer) { w.Text([]byte("a")) }, "0161"},
		{"a text of any bytes", func(w *Writer) { w.Text([]byte{0, 255, 128}) }, "0300ff80"},
		{"one behind the other", func(w *Writer) { w.Num(300); w.Int(-1); w.Text([]byte("a")) }, "ac02010161"},
	} {
		if got := written(t, c.write); got != c.want {
			t.Errorf("%s: %s, want %s", c.what, got, c.want)
		}
	}
	long := bytes.Repeat([]byte{7}, 300)
	if got := written(t, func(w *Writer) { w.Text(long) }); got != "ac02"+hex.EncodeToString(long) {
		t.Errorf("a text of 300: %s", got)
	}
}

// P3.1: at most most bytes are written, below 0 none.
func TestMost(t *testing.T) {
	write := map[string]func(w *Writer){
		"80808001": func(w *Writer) { w.Num(1 << 21) },
		"8101":     func(w *Writer) { w.Int(-65) },
		"01":       func(w *Writer) { w.Flag(true) },
		"00":       func(w *Writer) { w.Text(nil) },
		"03616263": func(w *Writer) { w.Text([]byte("abc")) },
	}
	for want, call := range write {
		size := len(want) / 2
		for _, most := range []int{math.MinInt, -size, -1, 0, size - 1, size, size + 1, math.MaxInt} {
			w := NewWriter(most)
			call(w)
			b, err := w.Done()
			if most >= size && (err != api.OK || hex.EncodeToString(b) != want) {
				t.Errorf("%s of at most %d: %x, %d", want, most, b, err)
			}
			if most < size && (err != api.ErrLong || len(b) != 0) {
				t.Errorf("%s of at most %d: %x, %d, want ErrLong", want, most, b, err)
			}
		}
	}
	for _, most := range []int{math.MinInt, -1, 0, 1} {
		if b, err := NewWriter(most).Done(); len(b) != 0 || err != api.OK {
			t.Errorf("nothing of at most %d: %x, %d", most, b, err)
		}
	}
}

// P3.1: the room is of all calls together, met just or gone beyond by one.
func TestMostOfAll(t *testing.T) {
	for most, want := range map[int]api.Errno{6: api.ErrLong, 7: api.OK, 8: api.OK} {
		w := NewWriter(most)
		w.Num(300)
		w.Flag(true)
		w.Int(-1)
		w.Text([]byte("ab"))
		if b, err := w.Done(); err != want || err == api.OK && hex.EncodeToString(b) != "ac020101026162" || err != api.OK && len(b) != 0 {
			t.Errorf("at most %d: %x, %d", most, b, err)
		}
	}
}

// P3.1: what comes behind a call that was not written isn't written either, even if it would fit.
func TestBehindLong(t *testing.T) {
	for name, call := range map[string]func(w *Writer){
		"Num":  func(w *Writer) { w.Num(1) },
		"Int":  func(w *Writer) { w.Int(1) },
		"Flag": func(w *Writer) { w.Flag(true) },
		"Text": func(w *Writer) { w.Text(nil) },
		"none": func(w *Writer) {},
	} {
		w := NewWriter(3)
		w.Num(5)
		w.Text([]byte("abc"))
		for range 3 {
			if b, err := w.Done(); len(b) != 0 || err != api.ErrLong {
				t.Errorf("%s behind what is too long: %x, %d", name, b, err)
			}
			call(w)
		}
	}
}

// P3.1: Done tells what there is, as often as it is asked, and the writer goes on.
func TestDoneAgain(t *testing.T) {
	w := NewWriter(3)
	for _, want := range []string{"", "05", "0506", "050607"} {
		for range 2 {
			if b, err := w.Done(); err != api.OK || hex.EncodeToString(b) != want {
				t.Errorf("Done = %x, %d, want %s", b, err, want)
			}
		}
		w.Num(uint64(5 + len(want)/2))
	}
	if b, err := w.Done(); len(b) != 0 || err != api.ErrLong {
		t.Errorf("a fourth byte of three: %x, %d", b, err)
	}
}

// P3.1, R2: a writer keeps nothing of a text and tells new memory.
func TestWriterMemory(t *testing.T) {
	text := []byte("abcdef")[:3]
	w := NewWriter(100)
	w.Text(text)
	if string(text[:6]) != "abcdef" {
		t.Errorf("Text changed what it was handed: %q", text[:6])
	}
	text[0] = 'x'
	first, _ := w.Done()
	second, _ := w.Done()
	first[1] = 'y'
	_ = append(first[:1], "zzz"...)
	w.Flag(true)
	third, _ := w.Done()
	if hex.EncodeToString(second) != "03616263" || hex.EncodeToString(third) != "0361626301" {
		t.Errorf("Done = %x, then %x", second, third)
	}
}

// P3.2: each call takes what stands next.
func TestRead(t *testing.T) {
	for _, c := range nums {
		r := NewReader(raw(t, c.b))
		if got := r.Num(); got != c.n || r.Left() != 0 || r.End() != api.OK {
			t.Errorf("Num of %s = %d, left %d, end %d", c.b, got, r.Left(), r.End())
		}
	}
	for _, c := range ints {
		r := NewReader(raw(t, c.b))
		if got := r.Int(); got != c.n || r.Left() != 0 || r.End() != api.OK {
			t.Errorf("Int of %s = %d, left %d, end %d", c.b, got, r.Left(), r.End())
		}
	}
	for b, want := range map[string]bool{"00": false, "01": true} {
		r := NewReader(raw(t, b))
		if got := r.Flag(); got != want || r.Left() != 0 || r.End() != api.OK {
			t.Errorf("Flag of %s = %v, left %d, end %d", b, got, r.Left(), r.End())
		}
	}
}

// P3.2: Left and End go along with what was taken.
func TestLeft(t *testing.T) {
	r := NewReader(raw(t, "ac0201010002616205"))
	left := func(want int) {
		t.Helper()
		end := api.ErrForm
		if want == 0 {
			end = api.OK
		}
		for range 2 {
			if r.Left() != want || r.End() != end {
				t.Errorf("left %d, end %d, want %d, %d", r.Left(), r.End(), want, end)
			}
		}
	}
	left(9)
	if n := r.Num(); n != 300 {
		t.Errorf("Num = %d", n)
	}
	left(7)
	if n := r.Int(); n != -1 {
		t.Errorf("Int = %d", n)
	}
	left(6)
	if !r.Flag() {
		t.Error("Flag = false")
	}
	left(5)
	if b := r.Text(9); len(b) != 0 {
		t.Errorf("Text = %x", b)
	}
	left(4)
	if b := r.Text(9); string(b) != "ab" {
		t.Errorf("Text = %x", b)
	}
	left(1)
	if n := r.Count(9); n != 5 {
		t.Errorf("Count = %d", n)
	}
	left(0)
	for _, none := range [][]byte{nil, {}} {
		if r := NewReader(none); r.Left() != 0 || r.End() != api.OK {
			t.Errorf("nothing: left %d, end %d", r.Left(), r.End())
		}
	}
}

// P3.2: a text or a count is at most most, below 0: 0.
func TestReadMost(t *testing.T) {
	for _, c := range []struct {
		b    string
		most int
		want api.Errno
	}{
		{"0161", 1, api.OK}, {"0161", 2, api.OK}, {"0161", math.MaxInt, api.OK},
		{"0161", 0, api.ErrLong}, {"0161", -1, api.ErrLong}, {"0161", math.MinInt, api.ErrLong},
		{"00", 0, api.OK}, {"00", -1, api.OK}, {"00", math.MinInt, api.OK},
		{"0461", 3, api.ErrLong}, {"0461", 4, api.ErrShort}, {"0361", 3, api.ErrShort}, {"01", 1, api.ErrShort},
		{"ffffffffffffffffff01", math.MaxInt, api.ErrLong}, {"ffffffffffffffff7f", math.MaxInt, api.ErrShort},
		{"80808080808080808001", math.MaxInt, api.ErrLong},
		{"", 3, api.ErrShort}, {"", -1, api.ErrShort}, {"83", 3, api.ErrShort}, {"8300", 3, api.ErrForm}, {"8000", -1, api.ErrForm},
	} {
		r := NewReader(raw(t, c.b))
		b := r.Text(c.most)
		if r.End() != c.want || r.Left() != 0 || c.want != api.OK && b != nil || c.want == api.OK && hex.EncodeToString(b) != c.b[2:] {
			t.Errorf("Text(%d) of %s: %x, left %d, end %d, want %d", c.most, c.b, b, r.Left(), r.End(), c.want)
		}
	}
	for _, c := range []struct {
		b    string
		most int
		n    int
		want api.Errno
	}{
		{"00", 0, 0, api.OK}, {"00", -1, 0, api.OK}, {"00", math.MinInt, 0, api.OK}, {"01", -1, 0, api.ErrLong}, {"01", 0, 0, api.ErrLong},
		{"ac02", 299, 0, api.ErrLong}, {"ac02", 300, 300, api.OK}, {"ac02", 301, 300, api.OK},
		{"ffffffffffffffff7f", math.MaxInt, math.MaxInt, api.OK}, {"ffffffffffffffff7f", math.MaxInt - 1, 0, api.ErrLong},
		{"80808080808080808001", math.MaxInt, 0, api.ErrLong}, {"ffffffffffffffffff01", math.MaxInt, 0, api.ErrLong},
		{"", 5, 0, api.ErrShort}, {"80", 5, 0, api.ErrShort}, {"8000", 5, 0, api.ErrForm},
	} {
		r := NewReader(raw(t, c.b))
		if n := r.Count(c.most); n != c.n || r.End() != c.want || r.Left() != 0 {
			t.Errorf("Count(%d) of %s: %d, left %d, end %d, want %d, %d", c.most, c.b, n, r.Left(), r.End(), c.n, c.want)
		}
	}
}

// P3.2: bytes that end early, bytes that are no number.
func TestNoNumber(t *testing.T) {
	for b, want := range map[string]api.Errno{
		"": api.ErrShort, "80": api.ErrShort, "ff": api.ErrShort, "8080": api.ErrShort, "ffffffffffffffffff": api.ErrShort, "808080808080808080": api.ErrShort,
		"8000": api.ErrForm, "ff00": api.ErrForm, "808000": api.ErrForm, "80808080808080808000": api.ErrForm,
		"ffffffffffffffffff02": api.ErrForm, "80808080808080808002": api.ErrForm, "8080808080808080807f": api.ErrForm,
		"80808080808080808080": api.ErrForm, "ffffffffffffffffff81": api.ErrForm, "ffffffffffffffffffff": api.ErrForm,
		"8080808080808080808001": api.ErrForm, "8080808080808080808000": api.ErrForm,
	} {
		r := NewReader(raw(t, b))
		if n := r.Num(); n != 0 || r.End() != want || r.Left() != 0 {
			t.Errorf("Num of %q = %d, left %d, end %d, want %d", b, n, r.Left(), r.End(), want)
		}
		r = NewReader(raw(t, b))
		if n := r.Int(); n != 0 || r.End() != want || r.Left() != 0 {
			t.Errorf("Int of %q = %d, left %d, end %d, want %d", b, n, r.Left(), r.End(), want)
		}
	}
}

// P3.2: a flag is 0 or 1.
func TestNoFlag(t *testing.T) {
	for b := 2; b < 256; b++ {
		r := NewReader([]byte{byte(b), 1})
		if r.Flag() || r.End() != api.ErrForm || r.Left() != 0 {
			t.Errorf("Flag of %x: left %d, end %d", b, r.Left(), r.End())
		}
	}
	r := NewReader(nil)
	if r.Flag() || r.End() != api.ErrShort {
		t.Errorf("Flag of nothing: end %d", r.End())
	}
}

// P3.2: at the first error the reader stays: zero values, nothing left, and that error.
func TestFirstErrorStays(t *testing.T) {
	for _, c := range []struct {
		b    string
		read func(r *Reader)
		want api.Errno
	}{
		{"02010101", func(r *Reader) { r.Flag() }, api.ErrForm},
		{"80000101", func(r *Reader) { r.Num() }, api.ErrForm},
		{"80000101", func(r *Reader) { r.Int() }, api.ErrForm},
		{"05010101", func(r *Reader) { r.Count(4) }, api.ErrLong},
		{"03616263", func(r *Reader) { r.Text(2) }, api.ErrLong},
		{"05010101", func(r *Reader) { r.Text(5) }, api.ErrShort},
		{"80808080", func(r *Reader) { r.Num() }, api.ErrShort},
	} {
		r := NewReader(raw(t, c.b))
		c.read(r)
		for range 2 {
			if r.Left() != 0 || r.End() != c.want {
				t.Errorf("%s: left %d, end %d, want %d", c.b, r.Left(), r.End(), c.want)
			}
			if n, i, f, b, k := r.Num(), r.Int(), r.Flag(), r.Text(9), r.Count(9); n != 0 || i != 0 || f || b != nil || k != 0 {
				t.Errorf("behind the error of %s: %d %d %v %x %d", c.b, n, i, f, b, k)
			}
		}
	}
}

// P3.2, R2: a reader keeps to itself, and tells new memory.
func TestReaderMemory(t *testing.T) {
	whole := raw(t, "0161016202")
	r := NewReader(whole[:4])
	whole[1] = 'x'
	first := r.Text(3)
	if string(first) != "a" {
		t.Errorf("the first text is %q", first)
	}
	_ = append(first, "zzz"...)
	if second := r.Text(3); string(second) != "b" {
		t.Errorf("the second text is %q", second)
	}
	if r.Num() != 0 || r.End() != api.ErrShort {
		t.Errorf("read behind the list's length: end %d", r.End())
	}
	if hex.EncodeToString(whole) != "0178016202" {
		t.Errorf("changed what was handed in: %x", whole)
	}
}

// P3.1, P3.2, R3: a nil writer, a nil reader.
func TestNil(t *testing.T) {
	var w *Writer
	w.Num(1)
	w.Int(-1)
	w.Flag(true)
	w.Text([]byte("a"))
	if b, err := w.Done(); b != nil || err != api.ErrArg {
		t.Errorf("nil writer: %x, %d", b, err)
	}
	var r *Reader
	if n, i, f, b, k := r.Num(), r.Int(), r.Flag(), r.Text(9), r.Count(9); n != 0 || i != 0 || f || b != nil || k != 0 {
		t.Errorf("nil reader: %d %d %v %x %d", n, i, f, b, k)
	}
	if r.Left() != 0 || r.End() != api.ErrArg {
		t.Errorf("nil reader: left %d, end %d", r.Left(), r.End())
	}
}

// step is one call: a kind, and what it writes.
type step struct {
	kind int
	n    uint64
	b    []byte
}

// anySteps makes up calls with numbers of all lengths.
func anySteps(rnd *rand.Rand) []step {
	var out []step
	for range rnd.Intn(12) {
		s := step{kind: rnd.Intn(5), n: rnd.Uint64() >> rnd.Intn(64), b: make([]byte, rnd.Intn(200))}
		rnd.Read(s.b)
		out = append(out, s)
	}
	return out
}

func (s step) write(w *Writer) {
	switch s.kind {
	case 0:
		w.Num(s.n)
	case 1:
		w.Int(int64(s.n))
	case 2:
		w.Flag(s.n%2 == 1)
	case 3:
		w.Text(s.b)
	default:
		w.Num(s.n >> 1)
	}
}

// read takes such a call, and tells what it took.
func (s step) read(r *Reader) step {
	got := step{kind: s.kind}
	switch s.kind {
	case 0:
		got.n = r.Num()
	case 1:
		got.n = uint64(r.Int())
	case 2:
		if r.Flag() {
			got.n = 1
		}
	case 3:
		got.b = r.Text(len(s.b))
	default:
		got.n = uint64(r.Count(math.MaxInt)) << 1
	}
	return got
}

// alike tells whether what was taken is what was written.
func (s step) alike(got step) bool {
	switch s.kind {
	case 0, 1:
		return got.n == s.n
	case 2:
		return got.n == s.n%2
	case 3:
		return bytes.Equal(got.b, s.b)
	}
	return got.n == s.n&^1
}

// P3.3: what was written is read, call by call, as it was.
func TestReadAsWritten(t *testing.T) {
	rnd := rand.New(rand.NewSource(3))
	for range 2000 {
		steps := anySteps(rnd)
		w := NewWriter(1 << 20)
		for _, s := range steps {
			s.write(w)
		}
		b, err := w.Done()
		if err != api.OK {
			t.Fatalf("Done: %d", err)
		}
		r := NewReader(b)
		for i, s := range steps {
			if got := s.read(r); !s.alike(got) {
				t.Fatalf("call %d of %x: %v, want %v", i, b, got, s)
			}
		}
		if r.Left() != 0 || r.End() != api.OK {
			t.Fatalf("behind %x: left %d, end %d", b, r.Left(), r.End())
		}
	}
}

// P3.3: bytes that are read without an error are what writing makes of it.
func TestWrittenAsRead(t *testing.T) {
	rnd := rand.New(rand.NewSource(33))
	fine := 0
	for range 200000 {
		b := make([]byte, rnd.Intn(14))
		rnd.Read(b)
		for i := range b {
			b[i] &= byte(rnd.Intn(256)) | byte(rnd.Intn(2)<<7)
		}
		r, w := NewReader(b), NewWriter(100)
		for r.Left() > 0 {
			rereadOne(rnd.Intn(5), r, w)
		}
		if r.End() != api.OK {
			continue
		}
		fine++
		if again, err := w.Done(); err != api.OK || !bytes.Equal(again, b) {
			t.Fatalf("%x was read, and is written as %x, %d", b, again, err)
		}
	}
	if fine < 1000 {
		t.Errorf("only %d were read", fine)
	}
}

// rereadOne takes one thing and writes it again.
func rereadOne(kind int, r *Reader, w *Writer) {
	switch kind {
	case 0:
		w.Num(r.Num())
	case 1:
		w.Int(r.Int())
	case 2:
		w.Flag(r.Flag())
	case 3:
		w.Text(r.Text(100))
	default:
		w.Num(uint64(r.Count(math.MaxInt)))
	}
}

// P3.3: the forms of the library's varints are the same, where they are one way.
func TestForms(t *testing.T) {
	rnd := rand.New(rand.NewSource(333))
	for range 5000 {
		n := rnd.Uint64() >> rnd.Intn(64)
		num := written(t, func(w *Writer) { w.Num(n) })
		whole := written(t, func(w *Writer) { w.Int(int64(n)) })
		if want := fmt.Sprintf("%x %x", binary.AppendUvarint(nil, n), binary.AppendVarint(nil, int64(n))); num+" "+whole != want {
			t.Fatalf("%d: %s %s, want %s", n, num, whole, want)
		}
	}
}

// The document's example.
func TestExample(t *testing.T) {
	w := NewWriter(5)
	w.Num(300)
	w.Int(-1)
	w.Text([]byte("a"))
	if b, err := w.Done(); hex.EncodeToString(b) != "ac02010161" || err != api.OK {
		t.Errorf("Done = %x, %d", b, err)
	}
}
