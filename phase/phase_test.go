package phase_test

import (
	"math"
	"math/rand"
	"slices"
	"testing"

	"respite/api"
	"respite/phase"
)

const (
	most  = math.MaxInt
	least = math.MinInt
)

// The deeds, as the chapter numbers them.
const (
	enter = 0
	leave = 1
	flip  = 2
)

// far are numbers that no word, gate or deed is, most of which would be one if only some of their bits were looked at.
var far = []int{
	least, least + 1, least + 65, -1 << 32, -1<<32 + 1, -129, -128, -127, -65, -64, -63, -2, -1,
	128, 129, 191, 192, 193, 255, 256, 257, 321, 1<<16 + 1, 1 << 32, 1<<32 + 1, 1<<32 + 65, 1<<62 + 1, most - 62, most - 1, most,
}

// words are those that may be; gates likewise.
func words() []int {
	var l []int
	for word := range 128 {
		l = append(l, word)
	}
	return l
}

var gates = []int{1, 65}

// wrongWords are numbers that are no word; wrongGates are some that are no gate, words among them.
func wrongWords() []int { return slices.Concat(far, near(-300, 0), near(128, 500)) }

func wrongGates() []int {
	return slices.Concat(far, near(-300, 1), near(2, 65), near(66, 500))
}

// near are the numbers from one up to ahead of another one.
func near(from, to int) []int {
	var l []int
	for v := from; v < to; v++ {
		l = append(l, v)
	}
	return l
}

// reader is a telling that knows no word: how often a reader is in, by which of the two gates it came in (0 or 1), and which of them stands.
type reader struct{ in, by, stands int }

// reading is the reader of a word and a gate that may be.
func reading(word, gate int) reader { return reader{word % 64, word / 64, gate / 64} }

// word and gate are the numbers that stand for it.
func (r reader) word() int { return 64*r.by + r.in }
func (r reader) gate() int { return 64*r.stands + 1 }

// done is the reader behind a deed, or as it was and why that could not be.
func (r reader) done(deed int) (reader, api.Errno) {
	switch deed {
	case enter:
		if r.in >= 63 {
			return r, api.ErrDeep
		}
		if r.in == 0 {
			r.by = r.stands
		}
		r.in++
	case leave:
		if r.in == 0 {
			return r, api.ErrNone
		}
		r.in--
	case flip:
		r.stands = 1 - r.stands
	}
	return r, api.OK
}

// held holds what Run tells of a word, a gate and deeds against the telling.
func held(t *testing.T, word, gate int, deeds []int) {
	t.Helper()
	r, refused := reading(word, gate), 0
	for _, deed := range deeds {
		next, e := r.done(deed)
		if e != api.OK {
			refused++
		}
		r = next
	}
	if w, g, n, e := phase.Run(word, gate, deeds); w != r.word() || g != r.gate() || n != refused || e != api.OK {
		t.Fatalf("%d, %d, %v: %d, %d, %d, %v, want %d, %d, %d", word, gate, deeds, w, g, n, e, r.word(), r.gate(), refused)
	}
}

// rows are all rows of up to so many of the deeds.
func rows(most int) [][]int {
	all, last := [][]int{nil}, [][]int{nil}
	for range most {
		var longer [][]int
		for _, row := range last {
			for _, deed := range []int{enter, leave, flip} {
				longer = append(longer, append(slices.Clone(row), deed))
			}
		}
		all, last = append(all, longer...), longer
	}
	return all
}

// thrown is a row of deeds; the greater the greed is, of 20, the deeper its reader goes.
func thrown(r *rand.Rand, many, greed int) []int {
	l := make([]int, many)
	for i := range l {
		switch v := r.Intn(20); {
		case r.Intn(8) == 0:
			l[i] = flip
		case v >= greed:
			l[i] = leave
		}
	}
	return l
}

// times is a row of the same deed.
func times(deed, many int) []int { return slices.Repeat([]int{deed}, many) }

// The chapter's examples, and some more by hand.
func TestByHand(t *testing.T) {
	for _, x := range []struct {
		word, gate, enters int
		e                  api.Errno
		old                bool
	}{
		{64, 1, 1, api.OK, false}, {65, 1, 66, api.OK, true},
		{0, 1, 1, api.OK, false}, {0, 65, 65, api.OK, false}, {64, 65, 65, api.OK, false},
		{1, 1, 2, api.OK, false}, {1, 65, 2, api.OK, true}, {65, 65, 66, api.OK, false},
		{2, 65, 3, api.OK, true}, {2, 1, 3, api.OK, false}, {66, 1, 67, api.OK, true},
		{62, 1, 63, api.OK, false}, {62, 65, 63, api.OK, true}, {126, 1, 127, api.OK, true}, {126, 65, 127, api.OK, false},
		{63, 1, 0, api.ErrDeep, false}, {63, 65, 0, api.ErrDeep, true}, {127, 1, 0, api.ErrDeep, true}, {127, 65, 0, api.ErrDeep, false},
	} {
		if w, e := phase.Enter(x.word, x.gate); w != x.enters || e != x.e {
			t.Errorf("Enter %d, %d: %d, %v, want %d, %v", x.word, x.gate, w, e, x.enters, x.e)
		}
		if old, e := phase.Old(x.word, x.gate); old != x.old || e != api.OK {
			t.Errorf("Old %d, %d: %v, %v, want %v", x.word, x.gate, old, e, x.old)
		}
	}
	for _, x := range []struct {
		word, leaves int
		e            api.Errno
	}{
		{0, 0, api.ErrNone}, {64, 0, api.ErrNone}, {1, 0, api.OK}, {65, 64, api.OK}, {2, 1, api.OK}, {66, 65, api.OK}, {63, 62, api.OK}, {127, 126, api.OK},
	} {
		if w, e := phase.Leave(x.word); w != x.leaves || e != x.e {
			t.Errorf("Leave %d: %d, %v, want %d, %v", x.word, w, e, x.leaves, x.e)
		}
	}
	for gate, other := range map[int]int{1: 65, 65: 1} {
		if g, e := phase.Flip(gate); g != other || e != api.OK {
			t.Errorf("Flip %d: %d, %v, want %d", gate, g, e, other)
		}
	}
}

// P14.1: of all words and gates that may be.
func TestAllThatMayBe(t *testing.T) {
	for _, word := range words() {
		for _, gate := range gates {
			r := reading(word, gate)
			in, why := r.done(enter)
			want := in.word()
			if why != api.OK {
				want = 0
			}
			if w, e := phase.Enter(word, gate); w != want || e != why {
				t.Errorf("Enter %d, %d: %d, %v, want %d, %v", word, gate, w, e, want, why)
			}
			if old, e := phase.Old(word, gate); old != (r.in > 0 && r.by != r.stands) || e != api.OK {
				t.Errorf("Old %d, %d: %v, %v", word, gate, old, e)
			}
		}
		out, why := reading(word, 1).done(leave)
		want := out.word()
		if why != api.OK {
			want = 0
		}
		if w, e := phase.Leave(word); w != want || e != why {
			t.Errorf("Leave %d: %d, %v, want %d, %v", word, w, e, want, why)
		}
	}
}

// P14.1, P14.2: a word or a gate that may not be is told by each call that is handed it, whatever the other one is, and nothing beside it.
func TestWrongWordsAndGates(t *testing.T) {
	for _, word := range wrongWords() {
		if w, e := phase.Leave(word); w != 0 || e != api.ErrArg {
			t.Errorf("Leave %d: %d, %v", word, w, e)
		}
		for _, gate := range append([]int{0, 64, -1, 128, most, least}, gates...) {
			refuses(t, word, gate)
		}
	}
	for _, gate := range wrongGates() {
		if g, e := phase.Flip(gate); g != 0 || e != api.ErrArg {
			t.Errorf("Flip %d: %d, %v", gate, g, e)
		}
		for _, word := range append([]int{-1, 128, most, least}, words()...) {
			refuses(t, word, gate)
		}
	}
}

// refuses holds that no call takes the word and the gate together.
func refuses(t *testing.T, word, gate int) {
	t.Helper()
	if w, e := phase.Enter(word, gate); w != 0 || e != api.ErrArg {
		t.Errorf("Enter %d, %d: %d, %v", word, gate, w, e)
	}
	if old, e := phase.Old(word, gate); old || e != api.ErrArg {
		t.Errorf("Old %d, %d: %v, %v", word, gate, old, e)
	}
	for _, deeds := range [][]int{nil, {enter}, {leave}, {flip}, {enter, leave, flip}, {3}} {
		if w, g, n, e := phase.Run(word, gate, deeds); w != 0 || g != 0 || n != 0 || e != api.ErrArg {
			t.Errorf("Run %d, %d, %v: %d, %d, %d, %v", word, gate, deeds, w, g, n, e)
		}
	}
}

// P14.2: by hand.
func TestRunByHand(t *testing.T) {
	for _, x := range []struct {
		word, gate int
		deeds      []int
		w, g, n    int
	}{
		{0, 1, nil, 0, 1, 0},
		{127, 65, []int{}, 127, 65, 0},
		{64, 1, []int{enter}, 1, 1, 0},
		{0, 65, []int{enter}, 65, 65, 0},
		{0, 1, []int{leave}, 0, 1, 1},
		{64, 65, []int{leave, leave}, 64, 65, 2},
		{0, 1, []int{flip}, 0, 65, 0},
		{63, 1, []int{enter}, 63, 1, 1},
		{127, 1, []int{enter, enter, leave, enter}, 127, 1, 2},
		// The gate is flipped while it is in, which it is by the one that stood when it came in; who comes in once more is in by the new one.
		{0, 1, []int{enter, flip, enter, leave, leave, leave, enter}, 65, 65, 1},
		{0, 1, []int{flip, enter, flip, enter}, 66, 1, 0},
		{65, 1, []int{leave, enter}, 1, 1, 0},
		{65, 1, []int{leave, leave, flip, enter}, 65, 65, 1},
		{66, 1, []int{leave, flip, flip, enter}, 66, 1, 0},
		{0, 1, []int{flip, flip, flip}, 0, 65, 0},
		{0, 65, times(enter, 65), 127, 65, 2},
		{127, 1, times(leave, 70), 64, 1, 7},
		{63, 65, append(times(leave, 63), enter), 65, 65, 0},
	} {
		if w, g, n, e := phase.Run(x.word, x.gate, x.deeds); w != x.w || g != x.g || n != x.n || e != api.OK {
			t.Errorf("%d, %d, %v: %d, %d, %d, %v, want %d, %d, %d", x.word, x.gate, x.deeds, w, g, n, e, x.w, x.g, x.n)
		}
	}
}

// P14.2: all rows of a few deeds, from each word and gate, and longer ones from the words at the edges.
func TestAllRows(t *testing.T) {
	for _, deeds := range rows(5) {
		for _, word := range words() {
			for _, gate := range gates {
				held(t, word, gate, deeds)
			}
		}
	}
	for _, deeds := range rows(8) {
		for _, word := range []int{0, 1, 2, 62, 63, 64, 65, 66, 126, 127} {
			for _, gate := range gates {
				held(t, word, gate, deeds)
			}
		}
	}
}

// P14.2: long rows that were thrown, some of which go as deep as may be.
func TestThrownRows(t *testing.T) {
	r := rand.New(rand.NewSource(14))
	for range 4000 {
		held(t, r.Intn(128), gates[r.Intn(2)], thrown(r, r.Intn(400), r.Intn(21)))
	}
}

// P14.2: a deed that is none, wherever it stands, among those that are done and those that are not.
func TestNoDeeds(t *testing.T) {
	none := slices.Concat(far, near(-300, 0), near(3, 300))
	for _, row := range [][]int{nil, {enter}, {leave, leave}, {flip, enter, flip}, times(enter, 70), {leave, flip, enter, enter, leave, leave, leave}} {
		for at := range len(row) + 1 {
			for _, deed := range none {
				deeds := slices.Insert(slices.Clone(row), at, deed)
				for _, word := range []int{0, 1, 63, 64, 127} {
					if w, g, n, e := phase.Run(word, 65, deeds); w != 0 || g != 0 || n != 0 || e != api.ErrArg {
						t.Fatalf("%d, %v: %d, %d, %d, %v, want ErrArg alone", word, deeds, w, g, n, e)
					}
				}
			}
		}
	}
}

// P14.2: deeds are done in order: behind a first part of them the others go on from there, and what is refused is counted in both.
func TestInTwoParts(t *testing.T) {
	r := rand.New(rand.NewSource(142))
	for range 500 {
		word, gate, deeds := r.Intn(128), gates[r.Intn(2)], thrown(r, r.Intn(150), r.Intn(21))
		w, g, n, _ := phase.Run(word, gate, deeds)
		at := r.Intn(len(deeds) + 1)
		w1, g1, n1, e1 := phase.Run(word, gate, deeds[:at])
		w2, g2, n2, e2 := phase.Run(w1, g1, deeds[at:])
		if w2 != w || g2 != g || n1+n2 != n || e1 != api.OK || e2 != api.OK {
			t.Fatalf("%d, %d, %v, %v: %d, %d, %d and %d, want %d, %d, %d", word, gate, deeds[:at], deeds[at:], w2, g2, n1, n2, w, g, n)
		}
	}
}

// P14.2: one deed is what its own call does, and where that tells an error nothing is changed, and one is counted.
func TestOneDeed(t *testing.T) {
	for _, word := range words() {
		for _, gate := range gates {
			in, e1 := phase.Enter(word, gate)
			out, e2 := phase.Leave(word)
			other, e3 := phase.Flip(gate)
			for deed, x := range []struct {
				w, g int
				e    api.Errno
			}{enter: {in, gate, e1}, leave: {out, gate, e2}, flip: {word, other, e3}} {
				refused := 0
				if x.e != api.OK {
					x.w, x.g, refused = word, gate, 1
				}
				if w, g, n, e := phase.Run(word, gate, []int{deed}); w != x.w || g != x.g || n != refused || e != api.OK {
					t.Errorf("%d, %d, %d: %d, %d, %d, %v, want %d, %d, %d", word, gate, deed, w, g, n, e, x.w, x.g, refused)
				}
			}
		}
	}
}

// P14.3: along thrown rows, by the calls one by one, the depth is how many more entered than left, and the phase that of the gate when the reader came in from outside.
func TestDepthAndPhase(t *testing.T) {
	r := rand.New(rand.NewSource(143))
	for range 1500 {
		word, gate := 0, gates[r.Intn(2)]
		entered, left, by := 0, 0, 0
		for _, deed := range thrown(r, r.Intn(300), r.Intn(21)) {
			switch deed {
			case enter:
				next, e := phase.Enter(word, gate)
				if (e == api.ErrDeep) != (entered-left == 63) {
					t.Fatalf("%d more are in: %v", entered-left, e)
				}
				if e != api.OK {
					continue
				}
				if entered == left {
					by = gate - 1
				}
				word = next
				entered++
			case leave:
				next, e := phase.Leave(word)
				if (e == api.ErrNone) != (entered == left) {
					t.Fatalf("%d more are in: %v", entered-left, e)
				}
				if e != api.OK {
					continue
				}
				word = next
				left++
			case flip:
				next, e := phase.Flip(gate)
				if e != api.OK || next == gate {
					t.Fatalf("%d: %d, %v", gate, next, e)
				}
				gate = next
			}
			if word&63 != entered-left || entered > left && word&64 != by {
				t.Fatalf("%d: %d entered, %d left, by %d", word, entered, left, by)
			}
			if old, e := phase.Old(word, gate); e != api.OK || old != (entered > left && by != gate-1) {
				t.Fatalf("%d, %d: %v, %v", word, gate, old, e)
			}
		}
	}
}

// P14.3: who is in is old by just one of two gates, so once while the gate is flipped twice; who is not is old by none.
func TestOldByOne(t *testing.T) {
	for _, word := range words() {
		a, e1 := phase.Old(word, 1)
		b, e2 := phase.Old(word, 65)
		if e1 != api.OK || e2 != api.OK || (a != b) != (word%64 > 0) || a && b {
			t.Errorf("%d: %v, %v, %v, %v", word, a, e1, b, e2)
		}
		for _, gate := range gates {
			once, _ := phase.Flip(gate)
			twice, _ := phase.Flip(once)
			a, _ := phase.Old(word, once)
			b, _ := phase.Old(word, twice)
			if twice != gate || (a || b) != (word%64 > 0) {
				t.Errorf("%d: %d, %d, %d: %v, %v", word, gate, once, twice, a, b)
			}
		}
	}
}

// P14.3: who came in by the gate that stands is not old by it, however deep it goes, till that is flipped; and no more when it is out.
func TestOldFromFlipToLeaving(t *testing.T) {
	for _, gate := range gates {
		other, _ := phase.Flip(gate)
		for deep := 1; deep <= 63; deep++ {
			word, _, n, e := phase.Run(0, gate, times(enter, deep))
			if old, why := phase.Old(word, gate); old || n != 0 || e != api.OK || why != api.OK {
				t.Errorf("%d deep by %d: %d, %v, %d, %v, %v", deep, gate, word, old, n, e, why)
			}
			for left := range deep {
				word, g, n, e := phase.Run(word, gate, append([]int{flip}, times(leave, left)...))
				if old, why := phase.Old(word, g); !old || g != other || n != 0 || e != api.OK || why != api.OK {
					t.Errorf("%d deep by %d, left %d: %d, %d, %v, %d, %v, %v", deep, gate, left, word, g, old, n, e, why)
				}
			}
			word, g, n, e := phase.Run(word, gate, append([]int{flip}, times(leave, deep)...))
			if old, why := phase.Old(word, g); old || g != other || n != 0 || e != api.OK || why != api.OK {
				t.Errorf("%d deep by %d, out: %d, %d, %v, %d, %v, %v", deep, gate, word, g, old, n, e, why)
			}
		}
	}
}

// R1, R3, R4: no call keeps anything, nil counts as empty, and the list that is handed in stays.
func TestKeepsNothing(t *testing.T) {
	deeds := []int{enter, flip, enter, leave, leave, leave, enter, 77, 77}
	was := slices.Clone(deeds)
	for range 3 {
		for _, deed := range deeds[:7] {
			phase.Run(127, 65, []int{deed, 3})
		}
		if w, g, n, e := phase.Run(0, 1, deeds[:7]); w != 65 || g != 65 || n != 1 || e != api.OK {
			t.Error(w, g, n, e)
		}
		if w, e := phase.Enter(0, 1); w != 1 || e != api.OK {
			t.Error(w, e)
		}
		if g, e := phase.Flip(1); g != 65 || e != api.OK {
			t.Error(g, e)
		}
		if !slices.Equal(deeds, was) {
			t.Fatal("it was changed:", deeds)
		}
	}
	for _, word := range words() {
		for _, deeds := range [][]int{nil, {}, deeds[:0]} {
			if w, g, n, e := phase.Run(word, 65, deeds); w != word || g != 65 || n != 0 || e != api.OK {
				t.Error(word, w, g, n, e)
			}
		}
	}
}

// P1: every call ends, and none panics, at numbers of all kinds and at long rows; what is told is a word and a gate that may be.
func TestEveryCallEnds(t *testing.T) {
	all := slices.Concat(far, near(-2, 4), []int{62, 63, 64, 65, 66, 126, 127})
	for _, word := range all {
		phase.Leave(word)
		phase.Flip(word)
		for _, gate := range all {
			may := word >= 0 && word < 128 && (gate == 1 || gate == 65)
			if _, e := phase.Enter(word, gate); (e == api.ErrArg) == may {
				t.Errorf("Enter %d, %d: %v", word, gate, e)
			}
			if _, e := phase.Old(word, gate); (e == api.OK) != may {
				t.Errorf("Old %d, %d: %v", word, gate, e)
			}
			for _, deed := range all {
				w, g, n, e := phase.Run(word, gate, []int{deed, deed})
				if is := may && deed >= 0 && deed <= 2; (e == api.OK) != is || e != api.OK && (w != 0 || g != 0 || n != 0 || e != api.ErrArg) {
					t.Errorf("Run %d, %d, %d: %d, %d, %d, %v", word, gate, deed, w, g, n, e)
				}
			}
		}
	}
	long := 1 << 20
	if w, g, n, e := phase.Run(0, 1, times(enter, long)); w != 63 || g != 1 || n != long-63 || e != api.OK {
		t.Error(w, g, n, e)
	}
	if w, g, n, e := phase.Run(127, 1, times(leave, long)); w != 64 || g != 1 || n != long-63 || e != api.OK {
		t.Error(w, g, n, e)
	}
	if w, g, n, e := phase.Run(5, 1, times(flip, long+1)); w != 5 || g != 65 || n != 0 || e != api.OK {
		t.Error(w, g, n, e)
	}
	if w, g, n, e := phase.Run(5, 1, append(times(flip, long), 3)); w != 0 || g != 0 || n != 0 || e != api.ErrArg {
		t.Error(w, g, n, e)
	}
}
