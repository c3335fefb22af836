package member

import (
	"bytes"
	"encoding/hex"
	"math"
	"math/rand"
	"testing"

	"tattler/api"
	"tattler/wire"
)

func alive(inc int64) api.Member   { return api.Member{State: api.Alive, Inc: inc} }
func suspect(inc int64) api.Member { return api.Member{State: api.Suspect, Inc: inc} }
func dead(inc int64) api.Member    { return api.Member{State: api.Dead, Inc: inc} }

// states are those that there are, in the order in which they rise.
var states = []int{api.Alive, api.Suspect, api.Dead}

// noStates are none: beside the ends, far off, and such as look like one when they are cut to fewer bits.
var noStates = []int{math.MinInt, math.MinInt + 1, -256, -2, -1, 3, 4, 127, 128, 256, 257, 258, 1 << 32, 1<<32 + 1, 1 << 62, math.MaxInt}

// incs are incarnations that may be: few, and both ends.
var incs = []int64{0, 1, 2, 3, 300, api.MaxCount - 2, api.MaxCount - 1, api.MaxCount}

// noIncs are incarnations that may not be.
var noIncs = []int64{math.MinInt64, math.MinInt64 + 1, -api.MaxCount, -2, -1, api.MaxCount + 1, api.MaxCount + 2, 1 << 62, math.MaxInt64}

// able is each member of states and incs.
func able() []api.Member {
	var row []api.Member
	for _, inc := range incs {
		for _, state := range states {
			row = append(row, api.Member{State: state, Inc: inc})
		}
	}
	return row
}

// unable is members that may not be: by the state, by the incarnation, by both.
func unable() []api.Member {
	var row []api.Member
	for _, state := range noStates {
		for _, inc := range append(incs, noIncs...) {
			row = append(row, api.Member{State: state, Inc: inc})
		}
	}
	for _, state := range states {
		for _, inc := range noIncs {
			row = append(row, api.Member{State: state, Inc: inc})
		}
	}
	return row
}

// plainJoin is Join by the chapter's words.
func plainJoin(a, b api.Member) api.Member {
	switch {
	case a.Inc > b.Inc:
		return a
	case b.Inc > a.Inc:
		return b
	case a.State > b.State:
		return a
	}
	return b
}

// P15.1: a member may be, if its State is one of three and its Inc is 0 to MaxCount.
func TestMay(t *testing.T) {
	for _, m := range able() {
		if !May(m) {
			t.Errorf("May(%v): false", m)
		}
	}
	for _, m := range unable() {
		if May(m) {
			t.Errorf("May(%v): true", m)
		}
	}
	if !May(api.Member{}) {
		t.Error("May of the zero value, alive in its first incarnation: false")
	}
}

// P15.1: each edge of May by itself, all else being well.
func TestMayEdges(t *testing.T) {
	for state, want := range map[int]bool{-1: false, 0: true, 1: true, 2: true, 3: false} {
		for _, inc := range incs {
			if got := May(api.Member{State: state, Inc: inc}); got != want {
				t.Errorf("May of state %d, %d: %v", state, inc, got)
			}
		}
	}
	for inc, want := range map[int64]bool{-1: false, 0: true, 1: true, 1<<40 - 1: true, 1 << 40: true, 1<<40 + 1: false} {
		for _, state := range states {
			if got := May(api.Member{State: state, Inc: inc}); got != want {
				t.Errorf("May of state %d, %d: %v", state, inc, got)
			}
		}
	}
}

// P15.1: the chapter's examples, and others by hand.
func TestJoinByHand(t *testing.T) {
	for _, c := range []struct{ a, b, want api.Member }{
		{suspect(3), alive(3), suspect(3)}, {dead(3), alive(4), alive(4)},
		{dead(3), suspect(3), dead(3)}, {dead(3), alive(3), dead(3)},
		{alive(0), alive(0), alive(0)}, {alive(0), dead(0), dead(0)}, {dead(0), alive(1), alive(1)},
		{dead(api.MaxCount - 1), alive(api.MaxCount), alive(api.MaxCount)},
		{suspect(api.MaxCount), dead(api.MaxCount), dead(api.MaxCount)},
	} {
		if got := Join(c.a, c.b); got != c.want {
			t.Errorf("Join(%v, %v): %v", c.a, c.b, got)
		}
		if got := Join(c.b, c.a); got != c.want {
			t.Errorf("Join(%v, %v): %v", c.b, c.a, got)
		}
	}
}

// P15.1: of one Inc the greater State of each pair, both ways round; Leq goes along.
func TestOneInc(t *testing.T) {
	for _, inc := range incs {
		for i, a := range states {
			for j, b := range states {
				x, y := api.Member{State: a, Inc: inc}, api.Member{State: b, Inc: inc}
				want := api.Member{State: states[max(i, j)], Inc: inc}
				if got := Join(x, y); got != want {
					t.Errorf("Join(%v, %v): %v", x, y, got)
				}
				if got := Leq(x, y); got != (i <= j) {
					t.Errorf("Leq(%v, %v): %v", x, y, got)
				}
			}
		}
	}
}

// P15.1: of different Inc the greater one, whatever each pair of States is, both ways round; Leq goes along.
func TestDifferentIncs(t *testing.T) {
	for i, low := range incs {
		for _, high := range incs[i+1:] {
			for _, a := range states {
				for _, b := range states {
					x, y := api.Member{State: a, Inc: low}, api.Member{State: b, Inc: high}
					if Join(x, y) != y || Join(y, x) != y {
						t.Errorf("Join of %v and %v: %v, %v", x, y, Join(x, y), Join(y, x))
					}
					if !Leq(x, y) || Leq(y, x) {
						t.Errorf("Leq of %v and %v: %v, %v", x, y, Leq(x, y), Leq(y, x))
					}
				}
			}
		}
	}
}

// P15.1: what may not be is joined as it stands: Join and Leq do not ask.
func TestJoinOfWhatMayNotBe(t *testing.T) {
	row := append(able(), unable()...)
	for _, a := range row {
		for _, b := range row {
			want := plainJoin(a, b)
			if got := Join(a, b); got != want {
				t.Fatalf("Join(%v, %v): %v", a, b, got)
			}
			if got := Leq(a, b); got != (want == b) {
				t.Fatalf("Leq(%v, %v): %v", a, b, got)
			}
		}
	}
}

// P15.3: Join goes both ways, in any order, and of one and itself it is it; it is above both, and the least that is.
func TestJoinLaws(t *testing.T) {
	row := able()
	for _, a := range row {
		if Join(a, a) != a || !Leq(a, a) {
			t.Errorf("of %v and itself: %v, %v", a, Join(a, a), Leq(a, a))
		}
		for _, b := range row {
			joined := Join(a, b)
			if joined != Join(b, a) || !May(joined) || !Leq(a, joined) || !Leq(b, joined) {
				t.Errorf("Join of %v and %v: %v, %v", a, b, joined, Join(b, a))
			}
			if Leq(a, b) && Leq(b, a) != (a == b) {
				t.Errorf("Leq of %v and %v both ways", a, b)
			}
			for _, c := range row {
				if Join(joined, c) != Join(a, Join(b, c)) {
					t.Errorf("Join of %v, %v, %v hangs on the order", a, b, c)
				}
				if Leq(a, c) && Leq(b, c) && !Leq(joined, c) {
					t.Errorf("Join of %v and %v is above %v, that is above both", a, b, c)
				}
			}
		}
	}
}

// P15.3: whoever is told the same holds the same at the end, in whichever order it was told, and told twice.
func TestJoinInAnyOrder(t *testing.T) {
	random := rand.New(rand.NewSource(15))
	for range 300 {
		told := able()
		random.Shuffle(len(told), func(i, j int) { told[i], told[j] = told[j], told[i] })
		told = told[:1+random.Intn(len(told))]
		var first api.Member
		for _, m := range told {
			first = Join(first, m)
		}
		told = append(told, told...)
		random.Shuffle(len(told), func(i, j int) { told[i], told[j] = told[j], told[i] })
		var second api.Member
		for _, m := range told {
			second = Join(second, m)
		}
		if first != second {
			t.Errorf("%v: %v and %v", told, first, second)
		}
	}
}

// P15.2: what a node holds of itself: told Alive, Suspect and Dead below own Inc, at it, above it, and at the end of counts.
func TestRefute(t *testing.T) {
	const most = api.MaxCount
	for _, c := range []struct {
		own, told, want api.Member
		news            bool
	}{
		{alive(3), alive(2), alive(3), false}, {alive(3), suspect(2), alive(3), false}, {alive(3), dead(2), alive(3), false}, {alive(3), dead(0), alive(3), false},
		{alive(3), alive(3), alive(3), false}, {alive(3), suspect(3), alive(4), true}, {alive(3), dead(3), alive(4), true},
		{alive(3), alive(4), alive(4), true}, {alive(3), suspect(4), alive(5), true}, {alive(3), dead(4), alive(5), true},
		{alive(3), alive(9), alive(9), true}, {alive(3), suspect(9), alive(10), true}, {alive(3), dead(9), alive(10), true},
		{alive(0), alive(0), alive(0), false}, {alive(0), suspect(0), alive(1), true}, {alive(0), dead(0), alive(1), true},
		{alive(3), alive(most - 1), alive(most - 1), true}, {alive(3), suspect(most - 1), alive(most), true}, {alive(3), dead(most - 1), alive(most), true},
		{alive(3), alive(most), alive(most), true}, {alive(3), suspect(most), alive(most), true}, {alive(3), dead(most), alive(most), true},
		{alive(most - 1), alive(most - 1), alive(most - 1), false}, {alive(most - 1), suspect(most - 1), alive(most), true}, {alive(most - 1), dead(most - 1), alive(most), true},
		{alive(most - 1), alive(most), alive(most), true}, {alive(most - 1), suspect(most), alive(most), true}, {alive(most - 1), dead(most), alive(most), true},
		{alive(most), alive(most), alive(most), false}, {alive(most), suspect(most), alive(most), false}, {alive(most), dead(most), alive(most), false},
		{alive(most), alive(most - 1), alive(most), false}, {alive(most), suspect(most - 1), alive(most), false}, {alive(most), dead(most - 1), alive(most), false},
	} {
		if got, news := Refute(c.own, c.told); got != c.want || news != c.news {
			t.Errorf("Refute(%v, %v): %v, %v", c.own, c.told, got, news)
		}
	}
}

// plainRefute is Refute by the chapter's words.
func plainRefute(own, told api.Member) (api.Member, bool) {
	if May(told) && told.State != api.Alive && told.Inc >= own.Inc && told.Inc < api.MaxCount {
		return api.Member{State: api.Alive, Inc: told.Inc + 1}, true
	} else if May(told) && told.Inc > own.Inc {
		return api.Member{State: api.Alive, Inc: told.Inc}, true
	}
	return own, false
}

// P15.2: told what may not be, a node holds what it held, whatever that is.
func TestRefuteOfWhatMayNotBe(t *testing.T) {
	for _, own := range append(able(), unable()...) {
		for _, told := range unable() {
			if got, news := Refute(own, told); got != own || news {
				t.Fatalf("Refute(%v, %v): %v, %v", own, told, got, news)
			}
		}
	}
}

// P15.2: own is asked for its Inc alone, and is told as it stands where there is no news, also one that is not Alive or may not be.
func TestRefuteOfAnyOwn(t *testing.T) {
	for _, own := range append(able(), unable()...) {
		for _, told := range able() {
			want, wantNews := plainRefute(own, told)
			if got, news := Refute(own, told); got != want || news != wantNews {
				t.Fatalf("Refute(%v, %v): %v, %v", own, told, got, news)
			}
		}
	}
	for _, own := range []api.Member{suspect(3), dead(3), {State: 9, Inc: 3}} {
		if got, news := Refute(own, dead(2)); got != own || news {
			t.Errorf("Refute(%v, dead 2): %v, %v", own, got, news)
		}
	}
	if got, news := Refute(alive(math.MinInt64), dead(0)); got != alive(1) || !news {
		t.Errorf("own far below 0: %v, %v", got, news)
	}
	if got, news := Refute(alive(math.MaxInt64), dead(api.MaxCount)); got != alive(math.MaxInt64) || news {
		t.Errorf("own far above MaxCount: %v, %v", got, news)
	}
}

// P15.3: what is refuted is above what was told, up to the end of counts; a node stays Alive to itself and never goes back.
func TestRefutedIsAbove(t *testing.T) {
	for _, inc := range incs {
		own := alive(inc)
		for _, told := range able() {
			got, news := Refute(own, told)
			if got.State != api.Alive || !May(got) || !Leq(own, got) || news != (got != own) {
				t.Errorf("Refute(%v, %v): %v, %v", own, told, got, news)
			}
			if told.Inc < api.MaxCount && !Leq(told, got) {
				t.Errorf("Refute(%v, %v): %v is not above", own, told, got)
			}
			if told.Inc < api.MaxCount && told.State != api.Alive && (Join(told, got) != got || Leq(got, told)) {
				t.Errorf("Refute(%v, %v): %v leaves it as it was told", own, told, got)
			}
		}
	}
}

// P15.2: what was refuted is no news when it is told again.
func TestRefuteAgain(t *testing.T) {
	for _, inc := range incs {
		for _, told := range able() {
			once, _ := Refute(alive(inc), told)
			if twice, news := Refute(once, told); twice != once || news {
				t.Errorf("Refute(%v, %v) again: %v, %v", alive(inc), told, twice, news)
			}
		}
	}
}

// bytesOf is m as a writer with room enough has it.
func bytesOf(t *testing.T, m api.Member) []byte {
	t.Helper()
	w := wire.NewWriter(1000)
	Write(w, m)
	b, err := w.Done()
	if err != api.OK {
		t.Fatalf("Done: %d", err)
	}
	return b
}

// P15.2: Write writes Num of State, Int of Inc.
func TestWrite(t *testing.T) {
	for _, c := range []struct {
		m    api.Member
		want string
	}{
		{alive(0), "0000"}, {alive(1), "0002"}, {suspect(3), "0106"}, {dead(5), "020a"},
		{dead(63), "027e"}, {dead(64), "028001"}, {suspect(api.MaxCount), "01808080808040"},
		{dead(api.MaxCount - 1), "02feffffffff3f"},
	} {
		if got := hex.EncodeToString(bytesOf(t, c.m)); got != c.want {
			t.Errorf("Write of %v: %s, want %s", c.m, got, c.want)
		}
	}
}

// P15.2, R3: what may not be is written as it stands, and is a false when it is read: no other member comes of it.
func TestWriteOfWhatMayNotBe(t *testing.T) {
	for _, m := range unable() {
		w := wire.NewWriter(1000)
		w.Num(uint64(m.State))
		w.Int(m.Inc)
		want, _ := w.Done()
		b := bytesOf(t, m)
		if !bytes.Equal(b, want) {
			t.Errorf("Write of %v: % x, want % x", m, b, want)
		}
		r := wire.NewReader(append(b, 1))
		if got, ok := Read(r); ok || got != (api.Member{}) {
			t.Errorf("Read of %v: %v, %v", m, got, ok)
		}
		if r.Left() != 1 || !r.Flag() || r.End() != api.OK {
			t.Errorf("Read of %v: the reader does not stand behind it", m)
		}
	}
}

// P15.2: Write goes on behind what stands, and its room may end within it.
func TestWriteRoom(t *testing.T) {
	for _, m := range able() {
		whole := append([]byte{1}, bytesOf(t, m)...)
		for most := -1; most <= len(whole)+1; most++ {
			w := wire.NewWriter(most)
			w.Flag(true)
			Write(w, m)
			b, err := w.Done()
			if most >= len(whole) && (err != api.OK || !bytes.Equal(b, whole)) {
				t.Errorf("%v in room of %d: % x, %d", m, most, b, err)
			}
			if most < len(whole) && (err != api.ErrLong || len(b) != 0) {
				t.Errorf("%v in room of %d: % x, %d, want ErrLong", m, most, b, err)
			}
		}
	}
	Write(nil, dead(3))
	Write(nil, api.Member{State: -1, Inc: -1})
}

// P15.2, T6: what was written is read as it was, and no byte more is taken.
func TestRead(t *testing.T) {
	for _, m := range able() {
		r := wire.NewReader(append(bytesOf(t, m), 0xff))
		if got, ok := Read(r); !ok || got != m || r.Left() != 1 {
			t.Errorf("Read of %v: %v, %v, %d left", m, got, ok, r.Left())
		}
		r = wire.NewReader(bytesOf(t, m))
		if got, ok := Read(r); !ok || got != m || r.End() != api.OK {
			t.Errorf("Read of %v to the end: %v, %v, %d", m, got, ok, r.End())
		}
	}
}

// P15.2: members that stand behind one another are read one by one, and none behind the last.
func TestReadOneByOne(t *testing.T) {
	w := wire.NewWriter(1000)
	for _, m := range able() {
		Write(w, m)
	}
	b, _ := w.Done()
	r := wire.NewReader(b)
	for _, m := range able() {
		if got, ok := Read(r); !ok || got != m {
			t.Errorf("%v: %v, %v", m, got, ok)
		}
	}
	if r.Left() != 0 || r.End() != api.OK {
		t.Errorf("behind all: %d left, %d", r.Left(), r.End())
	}
	if got, ok := Read(r); ok || got != (api.Member{}) || r.End() != api.ErrShort {
		t.Errorf("behind the end: %v, %v, %d", got, ok, r.End())
	}
}

// P15.2: a State that is none is a false, also one that would be a State in fewer bits; so is an Inc that may not be.
func TestReadMayNot(t *testing.T) {
	for _, state := range []uint64{3, 4, 127, 128, 256, 257, 258, 1 << 32, 1<<32 + 1, 1 << 62, 1<<63 - 1, 1 << 63, 1<<63 + 1, math.MaxUint64 - 1, math.MaxUint64} {
		for _, inc := range incs {
			readMayNot(t, state, inc)
		}
	}
	for _, state := range states {
		for _, inc := range noIncs {
			readMayNot(t, uint64(state), inc)
		}
	}
}

// readMayNot reads what those numbers are written as: a false, behind which the reader goes on.
func readMayNot(t *testing.T, state uint64, inc int64) {
	t.Helper()
	w := wire.NewWriter(1000)
	w.Num(state)
	w.Int(inc)
	Write(w, dead(7))
	b, _ := w.Done()
	r := wire.NewReader(b)
	if got, ok := Read(r); ok || got != (api.Member{}) {
		t.Errorf("Read of %d, %d: %v, %v", state, inc, got, ok)
	}
	if got, ok := Read(r); !ok || got != dead(7) || r.End() != api.OK {
		t.Errorf("behind %d, %d: %v, %v, %d", state, inc, got, ok, r.End())
	}
}

// P15.2: bytes that end early or are no number are a false, and the reader has that error.
func TestReadBroken(t *testing.T) {
	for _, m := range able() {
		whole := bytesOf(t, m)
		for n := range whole {
			r := wire.NewReader(whole[:n])
			if got, ok := Read(r); ok || got != (api.Member{}) || r.End() != api.ErrShort {
				t.Errorf("%d of % x: %v, %v, %d", n, whole, got, ok, r.End())
			}
		}
	}
	for text, want := range map[string]api.Errno{
		"": api.ErrShort, "02": api.ErrShort, "82": api.ErrShort, "0280": api.ErrShort, "03": api.ErrShort,
		"8000": api.ErrForm, "820000": api.ErrForm, "028000": api.ErrForm, "02ff00": api.ErrForm, "038000": api.ErrForm,
		"ffffffffffffffffff0200": api.ErrForm, "02ffffffffffffffffff02": api.ErrForm, "0280808080808080808080": api.ErrForm,
	} {
		b, err := hex.DecodeString(text)
		if err != nil {
			t.Fatal(err)
		}
		r := wire.NewReader(b)
		if got, ok := Read(r); ok || got != (api.Member{}) || r.End() != want {
			t.Errorf("Read of %q: %v, %v, %d, want %d", text, got, ok, r.End(), want)
		}
	}
}

// P15.2: false of a reader that failed before, with each error, and of a nil one; its error stays.
func TestReadBehindError(t *testing.T) {
	whole := bytesOf(t, dead(5))
	for _, c := range []struct {
		head []byte
		fail func(r *wire.Reader)
		want api.Errno
	}{
		{[]byte{2}, func(r *wire.Reader) { r.Flag() }, api.ErrForm},
		{[]byte{9}, func(r *wire.Reader) { r.Text(3) }, api.ErrLong},
		{[]byte{9}, func(r *wire.Reader) { r.Count(8) }, api.ErrLong},
		{[]byte{9}, func(r *wire.Reader) { r.Text(9) }, api.ErrShort},
	} {
		r := wire.NewReader(append(c.head, whole...))
		c.fail(r)
		for range 2 {
			if got, ok := Read(r); ok || got != (api.Member{}) || r.End() != c.want || r.Left() != 0 {
				t.Errorf("behind %d: %v, %v, %d", c.want, got, ok, r.End())
			}
		}
	}
	if got, ok := Read(nil); ok || got != (api.Member{}) {
		t.Errorf("nil reader: %v, %v", got, ok)
	}
}

// T6: bytes that are read as a member are just those that it is written as, whatever bytes are handed in.
func TestReadOneForm(t *testing.T) {
	random := rand.New(rand.NewSource(15))
	found := 0
	for range 50000 {
		b := make([]byte, random.Intn(10))
		for i := range b {
			b[i] = byte(random.Intn(4)) | byte(random.Intn(2))<<7
		}
		r := wire.NewReader(b)
		m, ok := Read(r)
		if !ok && m != (api.Member{}) {
			t.Fatalf("Read of % x: %v beside false", b, m)
		}
		if ok && (!May(m) || !bytes.Equal(bytesOf(t, m), b[:len(b)-r.Left()])) {
			t.Fatalf("Read of % x: %v", b, m)
		}
		if ok {
			found++
		}
	}
	if found < 1000 {
		t.Errorf("only %d members among the bytes", found)
	}
}
