package litmus_test

import (
	"math"
	"slices"
	"testing"

	"respite/api"
	"respite/litmus"
)

const (
	most  = math.MaxInt
	least = math.MinInt
)

func store(at, v int) api.Move { return api.Move{Kind: api.MStore, At: at, Value: v} }
func load(at int) api.Move     { return api.Move{Kind: api.MLoad, At: at} }
func fence() api.Move          { return api.Move{Kind: api.MFence} }
func xchg(at, v int) api.Move  { return api.Move{Kind: api.MXchg, At: at, Value: v} }

// does is a thread's moves.
func does(moves ...api.Move) []api.Move { return moves }

// test is one of so many words.
func test(words, depth int, threads ...[]api.Move) api.Litmus {
	return api.Litmus{Words: words, Depth: depth, Threads: threads}
}

// at is the test with another depth.
func at(l api.Litmus, depth int) api.Litmus {
	l.Depth = depth
	return l
}

func copied(l api.Litmus) api.Litmus {
	threads := make([][]api.Move, len(l.Threads))
	for i, moves := range l.Threads {
		threads[i] = slices.Clone(moves)
	}
	l.Threads = threads
	return l
}

func same(a, b api.Litmus) bool {
	return a.Words == b.Words && a.Depth == b.Depth && slices.EqualFunc(a.Threads, b.Threads, slices.Equal[[]api.Move])
}

func equal(a, b [][]int) bool { return slices.EqualFunc(a, b, slices.Equal[[]int]) }

// outcomes are those of a test that may be.
func outcomes(t *testing.T, l api.Litmus) [][]int {
	t.Helper()
	all, e := litmus.Outcomes(l)
	if e != api.OK {
		t.Fatalf("%v: %v", l, e)
	}
	return all
}

// place is where a test is on its way, told without a buffer: how many moves of each thread are made, how many of its stores are flushed, what it noted, and the words.
type place struct {
	made, flushed, many [3]int
	noted               [3][6]int
	words               [3]int
}

// waits are the thread's stores that are made and not flushed.
func (p place) waits(l api.Litmus, thread int) []api.Move {
	var all []api.Move
	for _, m := range l.Threads[thread][:p.made[thread]] {
		if m.Kind == api.MStore {
			all = append(all, m)
		}
	}
	return all[p.flushed[thread]:]
}

// sees is what the thread must see of a word.
func (p place) sees(l api.Litmus, thread, word int) int {
	v := p.words[word]
	for _, m := range p.waits(l, thread) {
		if m.At == word {
			v = m.Value
		}
	}
	return v
}

func (p place) note(thread, v int) place {
	p.noted[thread][p.many[thread]] = v
	p.many[thread]++
	return p
}

// next is the place behind the thread's next move; false, if it can't be made.
func (p place) next(l api.Litmus, thread int) (place, bool) {
	if p.made[thread] == len(l.Threads[thread]) {
		return p, false
	}
	m, waiting := l.Threads[thread][p.made[thread]], len(p.waits(l, thread))
	switch m.Kind {
	case api.MStore:
		if l.Depth > 0 && waiting == l.Depth {
			return p, false
		}
		if l.Depth == 0 {
			p.words[m.At] = m.Value
			p.flushed[thread]++
		}
	case api.MLoad:
		p = p.note(thread, p.sees(l, thread, m.At))
	case api.MFence:
		if waiting > 0 {
			return p, false
		}
	case api.MXchg:
		if waiting > 0 {
			return p, false
		}
		p = p.note(thread, p.words[m.At])
		p.words[m.At] = m.Value
	}
	p.made[thread]++
	return p, true
}

// flush is the place behind the flush of the thread's oldest store; false, if none waits.
func (p place) flush(l api.Litmus, thread int) (place, bool) {
	all := p.waits(l, thread)
	if len(all) == 0 {
		return p, false
	}
	p.words[all[0].At] = all[0].Value
	p.flushed[thread]++
	return p, true
}

// row is what the place ends in; false, if it isn't an end.
func (p place) row(l api.Litmus) ([]int, bool) {
	var o []int
	for thread, moves := range l.Threads {
		if p.made[thread] < len(moves) || len(p.waits(l, thread)) > 0 {
			return nil, false
		}
		o = append(o, p.noted[thread][:p.many[thread]]...)
	}
	return append(o, p.words[:l.Words]...), true
}

// told are the outcomes of a test that may be, by the chapter's words: all places that so many steps lead to, and then those of one more.
func told(l api.Litmus) [][]int {
	var all [][]int
	for now := map[place]bool{{}: true}; len(now) > 0; {
		later := map[place]bool{}
		for p := range now {
			if o, ends := p.row(l); ends {
				all = append(all, o)
			}
			for thread := range l.Threads {
				if after, can := p.next(l, thread); can {
					later[after] = true
				}
				if after, can := p.flush(l, thread); can {
					later[after] = true
				}
			}
		}
		now = later
	}
	slices.SortFunc(all, slices.Compare[[]int])
	return slices.CompactFunc(all, slices.Equal[[]int])
}

// agrees holds that Outcomes tells what the words tell.
func agrees(t *testing.T, l api.Litmus) {
	t.Helper()
	if got, want := outcomes(t, l), told(l); !equal(got, want) {
		t.Fatalf("%v: %v, want %v", l, got, want)
	}
}

// wrong are tests that may not be, by what is wrong with them.
func wrong() map[string]api.Litmus {
	all := map[string]api.Litmus{
		"nil":                        {},
		"no threads, nil":            test(1, 0),
		"no threads":                 {Words: 1, Threads: [][]api.Move{}},
		"4 threads":                  test(1, 0, nil, nil, nil, nil),
		"1000 threads":               test(1, 0, make([][]api.Move, 1000)...),
		"7 moves":                    test(1, 1, make([]api.Move, 7)),
		"7 moves of 3":               test(1, 1, make([]api.Move, 2), make([]api.Move, 3), make([]api.Move, 2)),
		"6 moves and 1":              test(1, 1, nil, make([]api.Move, 1), make([]api.Move, 6)),
		"7 fences":                   test(1, 1, slices.Repeat(does(fence()), 7)),
		"6 moves of each":            test(1, 1, make([]api.Move, 6), make([]api.Move, 6), make([]api.Move, 6)),
		"100000 moves":               test(1, 1, make([]api.Move, 100000)),
		"a load of 1":                test(1, 0, does(api.Move{Kind: api.MLoad, Value: 1})),
		"a load of 9":                test(3, 0, does(api.Move{Kind: api.MLoad, At: 2, Value: 9})),
		"a load of -1":               test(3, 0, does(api.Move{Kind: api.MLoad, At: 2, Value: -1})),
		"a fence at 1":               test(2, 0, does(api.Move{Kind: api.MFence, At: 1})),
		"a fence of 1":               test(2, 0, does(api.Move{Kind: api.MFence, Value: 1})),
		"a fence at 1 of 1":          test(2, 0, does(api.Move{Kind: api.MFence, At: 1, Value: 1})),
		"a fence at -1":              test(2, 0, does(api.Move{Kind: api.MFence, At: -1})),
		"the last of the last":       test(2, 1, does(store(0, 1)), does(load(1)), does(fence(), load(0), load(2))),
		"the first of the first":     test(2, 1, does(store(2, 1), load(1)), does(load(1))),
		"a wrong one between others": test(2, 1, does(store(0, 1)), does(store(1, 1), store(1, 10), store(1, 1)), nil),
	}
	for _, n := range []int{0, 4, -1, 160, least, most} {
		all["words: "+name(n)] = test(n, 1, does(fence()))
		all["words, no moves: "+name(n)] = test(n, 1, nil)
	}
	for _, n := range []int{-1, 4, 8, least, most} {
		all["depth: "+name(n)] = test(1, n, does(fence()))
	}
	for _, n := range []int{-1, 4, least, most} {
		all["kind: "+name(n)] = test(1, 1, does(api.Move{Kind: n}))
		all["kind, second: "+name(n)] = test(2, 1, does(load(0)), does(fence(), api.Move{Kind: n, At: 1, Value: 1}))
	}
	for kind := api.MStore; kind <= api.MXchg; kind++ {
		for _, n := range []int{-1, 10, least, most} {
			all["value: "+name(kind)+name(n)] = test(3, 1, nil, does(api.Move{Kind: kind, Value: n}))
		}
		for words := 1; words <= 3; words++ {
			for _, n := range []int{-1, words, 100, least, most} {
				all["place: "+name(kind)+name(words)+name(n)] = test(words, 1, does(api.Move{Kind: kind, At: n}))
			}
		}
	}
	return all
}

// name is a number's, of those that the wrong tests have.
func name(n int) string {
	switch n {
	case least:
		return " least"
	case most:
		return " most"
	}
	sign := " "
	if n < 0 {
		sign, n = " -", -n
	}
	digits := ""
	for ; n > 9; n /= 10 {
		digits = string(rune('0'+n%10)) + digits
	}
	return sign + string(rune('0'+n)) + digits
}

// P4.1: Right holds for all sizes and moves that may be.
func TestRight(t *testing.T) {
	for words := 1; words <= 3; words++ {
		for depth := 0; depth <= 3; depth++ {
			for threads := 1; threads <= 3; threads++ {
				if l := test(words, depth, make([][]api.Move, threads)...); !litmus.Right(l) {
					t.Errorf("%v: may be, but is not right", l)
				}
			}
			for word := range words {
				for v := 0; v <= 9; v++ {
					if l := test(words, depth, does(fence()), nil, does(load(word), store(word, v), xchg(word, v))); !litmus.Right(l) {
						t.Errorf("%v: may be, but is not right", l)
					}
				}
			}
		}
	}
	for name, l := range map[string]api.Litmus{
		"6 moves":            test(1, 3, make([]api.Move, 6)),
		"6 moves, the last":  test(1, 3, nil, nil, make([]api.Move, 6)),
		"6 moves of 3":       test(1, 3, make([]api.Move, 1), make([]api.Move, 3), make([]api.Move, 2)),
		"6 fences":           test(1, 0, slices.Repeat(does(fence()), 6)),
		"an empty list":      test(1, 0, []api.Move{}),
		"one that is longer": test(1, 0, make([]api.Move, 2, 20)),
	} {
		if !litmus.Right(l) {
			t.Errorf("%s: may be, but is not right", name)
		}
	}
}

// P4.1: what may not be is not right, and all calls tell ErrArg of it, with nothing beside that.
func TestWrong(t *testing.T) {
	for name, l := range wrong() {
		was := copied(l)
		if litmus.Right(l) {
			t.Errorf("%s: may not be, but is right", name)
		}
		if all, e := litmus.Outcomes(l); e != api.ErrArg || len(all) > 0 {
			t.Errorf("%s: Outcomes = %v, %v", name, all, e)
		}
		for _, o := range [][]int{nil, {}, {0}, {0, 0}, {0, 0, 0}, make([]int, 100)} {
			if can, e := litmus.Can(l, o); e != api.ErrArg || can {
				t.Errorf("%s: Can %v = %v, %v", name, o, can, e)
			}
		}
		if !same(l, was) {
			t.Errorf("%s: was changed", name)
		}
	}
}

// example is a test, and what it can end in.
type example struct {
	test api.Litmus
	want [][]int
}

// known are tests whose outcomes one can tell by hand.
func known() map[string]example {
	return map[string]example{
		"no moves":           {test(1, 0, nil), [][]int{{0}}},
		"no moves of three":  {test(3, 3, nil, nil, nil), [][]int{{0, 0, 0}}},
		"fences":             {test(2, 2, does(fence(), fence())), [][]int{{0, 0}}},
		"a load":             {test(2, 1, does(load(1))), [][]int{{0, 0, 0}}},
		"a store":            {test(2, 1, does(store(1, 9))), [][]int{{0, 9}}},
		"a store of 0":       {test(1, 1, does(store(0, 0))), [][]int{{0}}},
		"an exchange":        {test(2, 1, does(xchg(1, 9))), [][]int{{0, 0, 9}}},
		"own stores":         {test(1, 2, does(load(0), store(0, 5), load(0), store(0, 6), load(0))), [][]int{{0, 5, 6, 6}}},
		"own exchanges":      {test(1, 3, does(xchg(0, 3), xchg(0, 4), load(0))), [][]int{{0, 3, 4, 4}}},
		"an exchange behind": {test(1, 3, does(store(0, 7), xchg(0, 8), load(0))), [][]int{{7, 8, 8}}},
		"six stores":         {test(3, 1, does(store(0, 1), store(1, 2), store(2, 3), store(0, 4), store(1, 5), store(2, 6))), [][]int{{4, 5, 6}}},
		"the third alone":    {test(2, 1, nil, []api.Move{}, does(store(1, 4), load(1), load(0))), [][]int{{4, 0, 0, 4}}},
		"the last one stays": {test(1, 1, does(store(0, 1)), does(store(0, 2)), does(store(0, 3))), [][]int{{1}, {2}, {3}}},
		"notes in order":     {test(1, 0, does(load(0)), does(store(0, 1)), does(load(0))), [][]int{{0, 0, 1}, {0, 1, 1}, {1, 0, 1}, {1, 1, 1}}},
		"stores ahead of loads, depth 0": {
			test(2, 0, does(store(0, 1), load(1)), does(store(1, 1), load(0))),
			[][]int{{0, 1, 1, 1}, {1, 0, 1, 1}, {1, 1, 1, 1}},
		},
		"stores ahead of loads": {
			test(2, 1, does(store(0, 1), load(1)), does(store(1, 1), load(0))),
			[][]int{{0, 0, 1, 1}, {0, 1, 1, 1}, {1, 0, 1, 1}, {1, 1, 1, 1}},
		},
		"stores ahead of loads, one fence": {
			test(2, 1, does(store(0, 1), fence(), load(1)), does(store(1, 1), load(0))),
			[][]int{{0, 0, 1, 1}, {0, 1, 1, 1}, {1, 0, 1, 1}, {1, 1, 1, 1}},
		},
		"stores ahead of loads, two fences": {
			test(2, 3, does(store(0, 1), fence(), load(1)), does(store(1, 1), fence(), load(0))),
			[][]int{{0, 1, 1, 1}, {1, 0, 1, 1}, {1, 1, 1, 1}},
		},
		"fences ahead of stores": {
			test(2, 1, does(fence(), store(0, 1), load(1)), does(fence(), store(1, 1), load(0))),
			[][]int{{0, 0, 1, 1}, {0, 1, 1, 1}, {1, 0, 1, 1}, {1, 1, 1, 1}},
		},
		"exchanges ahead of loads": {
			test(2, 3, does(xchg(0, 1), load(1)), does(xchg(1, 1), load(0))),
			[][]int{{0, 0, 0, 1, 1, 1}, {0, 1, 0, 0, 1, 1}, {0, 1, 0, 1, 1, 1}},
		},
		"a message": {
			test(2, 3, does(store(0, 1), store(1, 1)), does(load(1), load(0))),
			[][]int{{0, 0, 1, 1}, {0, 1, 1, 1}, {1, 1, 1, 1}},
		},
		"loads ahead of stores": {
			test(2, 3, does(load(0), store(1, 1)), does(load(1), store(0, 1))),
			[][]int{{0, 0, 1, 1}, {0, 1, 1, 1}, {1, 0, 1, 1}},
		},
		"stores the other way round": {
			test(2, 3, does(store(0, 1), store(1, 2)), does(store(1, 1), store(0, 2))),
			[][]int{{1, 2}, {2, 1}, {2, 2}},
		},
		"two exchange one word": {
			test(1, 2, does(xchg(0, 1)), does(xchg(0, 2))),
			[][]int{{0, 1, 2}, {2, 0, 1}},
		},
	}
}

// P4.1: what is known of a test is told, each outcome once, the lesser ones first; the test stays as it was.
func TestOutcomes(t *testing.T) {
	for name, c := range known() {
		was := copied(c.test)
		if got := outcomes(t, c.test); !equal(got, c.want) {
			t.Errorf("%s: %v, want %v", name, got, c.want)
		}
		if !same(c.test, was) {
			t.Errorf("%s: was changed: %v", name, c.test)
		}
		agrees(t, c.test)
	}
}

// P4.1, P4.2: some rows can be from a depth on, and not with a lesser one, or never.
func TestDepths(t *testing.T) {
	const never = 4
	for name, c := range map[string]struct {
		test api.Litmus
		row  []int
		from int
	}{
		"both miss":                {test(2, 0, does(store(0, 1), load(1)), does(store(1, 1), load(0))), []int{0, 0, 1, 1}, 1},
		"both miss, with exchange": {test(2, 0, does(store(0, 1), load(1)), does(xchg(1, 1), load(0))), []int{0, 0, 0, 1, 1}, 1},
		"both miss, fences":        {test(2, 0, does(store(0, 1), fence(), load(1)), does(store(1, 1), fence(), load(0))), []int{0, 0, 1, 1}, never},
		"both see their own":       {test(2, 0, does(store(0, 1), load(0), load(1)), does(store(1, 1), load(1), load(0))), []int{1, 0, 1, 0, 1, 1}, 1},
		"own ahead of the other's": {test(2, 0, does(store(0, 1), load(0), load(1)), does(store(1, 2), store(0, 2))), []int{1, 0, 1, 2}, 1},
		"two wait":                 {test(3, 0, does(store(0, 1), store(1, 1), load(2)), does(xchg(2, 1), load(0))), []int{0, 0, 0, 1, 1, 1}, 2},
		"three wait":               {test(3, 0, does(store(0, 1), store(1, 1), store(1, 2), load(2)), does(xchg(2, 1), load(0))), []int{0, 0, 0, 1, 2, 1}, 3},
		"an exchange between":      {test(3, 0, does(store(0, 1), xchg(2, 1), load(1)), does(store(1, 1), xchg(2, 2), load(0))), []int{0, 0, 1, 0, 1, 1, 2}, never},
		"a message":                {test(2, 0, does(store(0, 1), store(1, 1)), does(load(1), load(0))), []int{1, 0, 1, 1}, never},
		"a message of two":         {test(2, 0, does(store(0, 1)), does(load(0), store(1, 1)), does(load(1), load(0))), []int{1, 1, 0, 1, 1}, never},
		"loads of the future":      {test(2, 0, does(load(0), store(1, 1)), does(load(1), store(0, 1))), []int{1, 1, 1, 1}, never},
		"back to an elder one":     {test(1, 0, does(store(0, 1), store(0, 2)), does(load(0), load(0))), []int{2, 1, 2}, never},
		"an elder one stays":       {test(1, 0, does(store(0, 1), store(0, 2))), []int{1}, never},
		"seen in another order":    {test(2, 0, does(store(0, 1)), does(load(0), load(1)), does(store(1, 1), load(0))), []int{1, 0, 0, 1, 1}, 1},
		"seen in one order":        {test(2, 0, does(store(0, 1)), does(load(0), load(1)), does(xchg(1, 1), load(0))), []int{1, 0, 0, 0, 1, 1}, never},
		"both first":               {test(1, 0, does(xchg(0, 1)), does(xchg(0, 2))), []int{0, 0, 1}, never},
		"at once":                  {test(1, 0, does(load(0)), does(store(0, 1))), []int{1, 1}, 0},
	} {
		for depth := 0; depth <= 3; depth++ {
			l := at(c.test, depth)
			can, e := litmus.Can(l, c.row)
			if want := depth >= c.from; can != want || e != api.OK {
				t.Errorf("%s, depth %d: Can %v = %v, %v, want %v", name, depth, c.row, can, e, want)
			}
			agrees(t, l)
		}
	}
}

// rows are the rows of up to so many moves at two words, the first of which stores value, and so on.
func rows(many, value int) [][]api.Move {
	all := [][]api.Move{nil}
	if many == 0 {
		return all
	}
	for _, m := range []api.Move{store(0, value), store(1, value), load(0), load(1), fence(), xchg(0, value), xchg(1, value)} {
		for _, others := range rows(many-1, value+1) {
			all = append(all, append(does(m), others...))
		}
	}
	return all
}

// pairs are the tests at two words of two threads of up to two moves each, at depth 0.
func pairs() []api.Litmus {
	var all []api.Litmus
	for _, one := range rows(2, 1) {
		for _, two := range rows(2, 3) {
			all = append(all, test(2, 0, one, two))
		}
	}
	return all
}

// larger are so many tests of three threads and six moves, each another one, at depths from 0 to 3; they are the same ones each time.
func larger(many int) []api.Litmus {
	all := make([]api.Litmus, many)
	state := uint64(1)
	below := func(n int) int {
		state = state*6364136223846793005 + 1442695040888963407
		return int((state >> 33) % uint64(n))
	}
	for i := range all {
		words := 1 + i%3
		l := test(words, i/3%4, nil, nil, nil)
		for range api.MaxMoves {
			thread, word, v := below(3), below(words), below(4)
			m := []api.Move{store(word, v), load(word), fence(), xchg(word, v), store(word, 1+v), load(word)}[below(6)]
			l.Threads[thread] = append(l.Threads[thread], m)
		}
		all[i] = l
	}
	return all
}

// P4.1: of all tests of two threads of up to two moves at two words, Outcomes tells what the chapter's words tell.
func TestAllPairs(t *testing.T) {
	for _, l := range pairs() {
		for depth := 0; depth <= 2; depth++ {
			agrees(t, at(l, depth))
		}
	}
}

// P4.1: so of tests as large as may be.
func TestLarger(t *testing.T) {
	for _, l := range larger(600) {
		agrees(t, l)
	}
}

// P4.1: the outcomes of a test are of one length, and strictly one behind the other.
func TestOrder(t *testing.T) {
	for _, l := range larger(120) {
		all := outcomes(t, l)
		for i := range all {
			if len(all[i]) != len(all[0]) {
				t.Errorf("%v: %v and %v", l, all[0], all[i])
			}
			if i > 0 && slices.Compare(all[i-1], all[i]) >= 0 {
				t.Errorf("%v: %v ahead of %v", l, all[i-1], all[i])
			}
		}
	}
}

// near are rows that are one step away from the row.
func near(o []int) [][]int {
	all := [][]int{nil, {}, o[:len(o)-1], o[1:], append(slices.Clone(o), 0), append([]int{0}, o...), make([]int, 100)}
	for i := range o {
		for _, v := range []int{o[i] + 1, o[i] - 1, o[i] + 256, -1, 10, least, most} {
			other := slices.Clone(o)
			other[i] = v
			all = append(all, other)
		}
		if i > 0 {
			other := slices.Clone(o)
			other[i-1], other[i] = other[i], other[i-1]
			all = append(all, other)
		}
	}
	return all
}

// P4.2: Can holds for just the outcomes.
func TestCan(t *testing.T) {
	tests := larger(24)
	for _, c := range known() {
		tests = append(tests, c.test)
	}
	for _, l := range tests {
		want := told(l)
		for _, o := range want {
			if can, e := litmus.Can(l, o); !can || e != api.OK {
				t.Errorf("%v: Can %v = %v, %v", l, o, can, e)
			}
		}
		for _, o := range near(want[len(want)/2]) {
			was := slices.Clone(o)
			is := slices.ContainsFunc(want, func(w []int) bool { return slices.Equal(w, o) })
			if can, e := litmus.Can(l, o); can != is || e != api.OK {
				t.Errorf("%v: Can %v = %v, %v, want %v", l, o, can, e, is)
			}
			if !slices.Equal(o, was) {
				t.Errorf("%v: Can changed the row %v to %v", l, was, o)
			}
		}
	}
}

// fenced is the test with a fence behind each store.
func fenced(l api.Litmus) api.Litmus {
	l = copied(l)
	for i, moves := range l.Threads {
		var all []api.Move
		for _, m := range moves {
			all = append(all, m)
			if m.Kind == api.MStore {
				all = append(all, fence())
			}
		}
		l.Threads[i] = all
	}
	return l
}

// P4.3: a fence behind each store leaves the outcomes of a depth of 0, at all depths.
func TestFencedStores(t *testing.T) {
	looked := 0
	for _, l := range append(pairs(), larger(300)...) {
		f := fenced(l)
		if !litmus.Right(f) {
			continue
		}
		looked++
		want := outcomes(t, at(l, 0))
		for depth := 0; depth <= 3; depth++ {
			if got := outcomes(t, at(f, depth)); !equal(got, want) {
				t.Fatalf("%v: %v, want %v", at(f, depth), got, want)
			}
		}
	}
	if looked < 3000 {
		t.Error("only", looked)
	}
}

// P4.3: no outcome is gone with a greater depth.
func TestGreaterDepth(t *testing.T) {
	more := 0
	for _, l := range append(pairs(), larger(120)...) {
		lesser := outcomes(t, at(l, 0))
		for depth := 1; depth <= 3; depth++ {
			all := outcomes(t, at(l, depth))
			for _, o := range lesser {
				if _, is := slices.BinarySearchFunc(all, o, slices.Compare[[]int]); !is {
					t.Fatalf("%v: %v is gone", at(l, depth), o)
				}
			}
			if len(all) > len(lesser) {
				more++
			}
			lesser = all
		}
	}
	if more == 0 {
		t.Error("a greater depth brought none")
	}
}

// P4.3: who sees the later one of two stores at two words sees the earlier one, whatever a third thread does elsewhere.
func TestEarlierStoresAreSeen(t *testing.T) {
	for _, c := range [][3]int{{0, 1, 2}, {0, 2, 1}, {1, 0, 2}, {1, 2, 0}, {2, 0, 1}, {2, 1, 0}} {
		first, second, other := c[0], c[1], c[2]
		for _, third := range [][]api.Move{nil, does(load(first)), does(store(other, 5)), does(store(other, 5), load(second)), does(xchg(other, 5), load(first)), does(fence(), load(second))} {
			for depth := 0; depth <= 3; depth++ {
				seen := map[[2]int]bool{}
				for _, o := range outcomes(t, test(3, depth, does(load(second), load(first)), does(store(first, 1), store(second, 2)), third)) {
					seen[[2]int{o[0], o[1]}] = true
				}
				if seen[[2]int{2, 0}] || !seen[[2]int{2, 1}] || !seen[[2]int{0, 1}] || !seen[[2]int{0, 0}] || len(seen) != 3 {
					t.Errorf("%d and then %d, beside %v, depth %d: %v", first, second, third, depth, seen)
				}
			}
		}
	}
}

// P4.3: who loads one word again and again sees a thread's stores in their order.
func TestStoresAreSeenInOrder(t *testing.T) {
	for depth := 0; depth <= 3; depth++ {
		all := outcomes(t, test(1, depth, does(store(0, 1), store(0, 2), store(0, 3)), does(load(0), load(0), load(0))))
		for _, o := range all {
			if !slices.IsSorted(o) || o[3] != 3 {
				t.Errorf("depth %d: %v", depth, o)
			}
		}
		if len(all) != 20 {
			t.Errorf("depth %d: %d outcomes", depth, len(all))
		}
	}
}

// R3: it is all one whether a list is nil or has no elements.
func TestNilLists(t *testing.T) {
	one := outcomes(t, test(2, 1, nil, does(store(0, 1), load(1)), nil))
	two := outcomes(t, test(2, 1, []api.Move{}, does(store(0, 1), load(1)), []api.Move{}))
	if !equal(one, two) || !equal(one, [][]int{{0, 1, 0}}) {
		t.Error(one, two)
	}
	for _, none := range [][]int{nil, {}} {
		if can, e := litmus.Can(test(2, 1, nil), none); can || e != api.OK {
			t.Error(can, e)
		}
	}
}

// R1, R4, and more: what is asked again is answered again, in lists of its own, of which no two are one.
func TestAnswersShareNothing(t *testing.T) {
	for _, l := range larger(60) {
		was := copied(l)
		want := told(l)
		for i := range want {
			all := outcomes(t, l)
			whole := all[i][:cap(all[i])]
			for j := range whole {
				whole[j] = -7
			}
			if !equal(slices.Delete(all, i, i+1), slices.Concat(want[:i], want[i+1:])) {
				t.Fatalf("%v: outcome %d is shared with another one", l, i)
			}
		}
		if !equal(outcomes(t, l), want) || !same(l, was) {
			t.Errorf("%v: was %v", l, was)
		}
	}
}

// P1, R4: what stands behind a thread's moves in its list stays, and is no move.
func TestMovesInLongerLists(t *testing.T) {
	long := does(store(0, 1), load(1), store(1, 9), xchg(0, 8))
	l := test(2, 1, long[:1], long[1:2], long[2:2])
	if got := outcomes(t, l); !equal(got, [][]int{{0, 1, 0}}) {
		t.Error(got)
	}
	if !slices.Equal(long, does(store(0, 1), load(1), store(1, 9), xchg(0, 8))) {
		t.Error(long)
	}
}
