package buffer_test

import (
	"math"
	"slices"
	"testing"

	"respite/api"
	"respite/buffer"
	"respite/memory"
)

// row is n puts, told apart by their places and their values.
func row(n int) []api.Put {
	b := make([]api.Put, n)
	for i := range b {
		b[i] = api.Put{At: i % 3, Value: 100 + i}
	}
	return b
}

// puts is a row of puts: a place and its value each.
func puts(pairs ...[2]int) []api.Put {
	var b []api.Put
	for _, p := range pairs {
		b = append(b, api.Put{At: p[0], Value: p[1]})
	}
	return b
}

// mixed has each tag: places 1, 2 and 5 are live, 3 and 4 are freed.
func mixed() api.Memory {
	return api.Memory{Words: []int{0, 11, 12, 13, 0, 15}, Tags: []int{0, 1, 1, 2, 2, 1}}
}

// live is a memory of n words, all had; they count down from -1.
func live(n int) api.Memory {
	m := api.Memory{Words: make([]int, n), Tags: make([]int, n)}
	for i := range n {
		m.Words[i], m.Tags[i] = -1-i, api.TLive
	}
	return m
}

// wrong are memories that may not be, by what is wrong with them.
func wrong() map[string]api.Memory {
	return map[string]api.Memory{
		"nil":                 {},
		"empty":               {Words: []int{}, Tags: []int{}},
		"no tags":             {Words: []int{0}},
		"no words":            {Tags: []int{1}},
		"a tag too few":       {Words: []int{0, 1, 2}, Tags: []int{1, 1}},
		"161 words":           live(161),
		"a tag of 3":          {Words: []int{0, 1}, Tags: []int{1, 3}},
		"a tag of -1":         {Words: []int{0, 1}, Tags: []int{-1, 1}},
		"a word never had, 5": {Words: []int{0, 5}, Tags: []int{1, 0}},
	}
}

func same(a, b api.Memory) bool {
	return slices.Equal(a.Words, b.Words) && slices.Equal(a.Tags, b.Tags)
}

func copied(m api.Memory) api.Memory {
	return api.Memory{Words: slices.Clone(m.Words), Tags: slices.Clone(m.Tags)}
}

func empty(m api.Memory) bool { return len(m.Words) == 0 && len(m.Tags) == 0 }

// P2.1: where there is room, the put comes behind all others, whatever its place and value are; nothing else is changed.
func TestPush(t *testing.T) {
	for depth := 1; depth <= 8; depth++ {
		for n := range depth {
			for _, p := range puts([2]int{0, 0}, [2]int{1, 7}, [2]int{-1, -7}, [2]int{160, 1}, [2]int{math.MinInt, math.MaxInt}, [2]int{math.MaxInt, math.MinInt}) {
				b := row(n)
				got, e := buffer.Push(b, depth, p)
				if want := append(row(n), p); e != api.OK || !slices.Equal(got, want) {
					t.Errorf("Push %v on %d at depth %d = %v, %v, want %v", p, n, depth, got, e, want)
				}
				if !slices.Equal(b, row(n)) {
					t.Errorf("Push %v on %d at depth %d changed what was handed in: %v", p, n, depth, b)
				}
			}
		}
	}
}

// P2.1: a buffer that has as many puts as the depth is takes no more; at depth 0 that is the empty one.
func TestPushOfFull(t *testing.T) {
	for depth := 0; depth <= 8; depth++ {
		if got, e := buffer.Push(row(depth), depth, api.Put{At: 1, Value: 2}); e != api.ErrFull || len(got) != 0 {
			t.Errorf("Push on %d at depth %d = %v, %v", depth, depth, got, e)
		}
	}
	for _, b := range [][]api.Put{nil, {}} {
		if got, e := buffer.Push(b, 0, api.Put{}); e != api.ErrFull || len(got) != 0 {
			t.Errorf("Push on an empty one at depth 0 = %v, %v", got, e)
		}
	}
}

// P2.1: a depth that is not 0 to 8, or more puts than it, are ErrArg, ahead of ErrFull.
func TestPushOfWrong(t *testing.T) {
	for _, depth := range []int{-1, -8, 9, 10, 160, math.MinInt, math.MaxInt} {
		for _, n := range []int{0, 1, 8, 9, 10, 160} {
			if got, e := buffer.Push(row(n), depth, api.Put{At: 1, Value: 2}); e != api.ErrArg || len(got) != 0 {
				t.Errorf("Push on %d at depth %d = %v, %v", n, depth, got, e)
			}
		}
	}
	for depth := 0; depth <= 8; depth++ {
		for _, n := range []int{depth + 1, depth + 2, 9, 100} {
			if got, e := buffer.Push(row(n), depth, api.Put{At: 1, Value: 2}); e != api.ErrArg || len(got) != 0 {
				t.Errorf("Push on %d at depth %d = %v, %v", n, depth, got, e)
			}
		}
	}
}

// R4, P2.1: what stands behind a buffer in its list stays, and two puts behind one buffer don't meet.
func TestPushSharesNothing(t *testing.T) {
	for n := range 8 {
		behind := api.Put{At: -5, Value: -5}
		whole := slices.Repeat([]api.Put{behind}, 20)
		copy(whole, row(n))
		b := whole[:n]
		one, _ := buffer.Push(b, 8, api.Put{At: 1, Value: 1})
		two, _ := buffer.Push(b, 8, api.Put{At: 2, Value: 2})
		if !slices.Equal(one, append(row(n), api.Put{At: 1, Value: 1})) || !slices.Equal(two, append(row(n), api.Put{At: 2, Value: 2})) {
			t.Errorf("of %d: %v, %v", n, one, two)
		}
		for i := range one {
			one[i] = api.Put{At: -9, Value: -9}
		}
		if !slices.Equal(b, row(n)) || slices.ContainsFunc(whole[n:], func(p api.Put) bool { return p != behind }) {
			t.Errorf("of %d: shared with what was handed in: %v", n, whole)
		}
		if !slices.Equal(two, append(row(n), api.Put{At: 2, Value: 2})) {
			t.Errorf("of %d: shared with another answer: %v", n, two)
		}
	}
}

// P2.1: Newest is the last put for the place, one of value 0 too; rows are of any length.
func TestNewest(t *testing.T) {
	most, least := math.MaxInt, math.MinInt
	long := row(1000)
	for _, c := range []struct {
		b    []api.Put
		at   int
		want int
		is   bool
	}{
		{nil, 0, 0, false},
		{[]api.Put{}, 0, 0, false},
		{puts([2]int{0, 5}), 0, 5, true},
		{puts([2]int{0, 5}), 1, 0, false},
		{puts([2]int{1, 5}), 0, 0, false},
		{puts([2]int{1, 5}, [2]int{2, 6}, [2]int{1, 7}), 1, 7, true},
		{puts([2]int{1, 5}, [2]int{2, 6}, [2]int{1, 7}), 2, 6, true},
		{puts([2]int{1, 5}, [2]int{2, 6}, [2]int{1, 7}), 7, 0, false},
		{puts([2]int{1, 5}, [2]int{1, 0}), 1, 0, true},
		{puts([2]int{1, 5}, [2]int{1, 9}, [2]int{1, 5}), 1, 5, true},
		{puts([2]int{3, 4}, [2]int{2, 3}, [2]int{2, 2}), 3, 4, true},
		{puts([2]int{-1, least}, [2]int{most, 1}, [2]int{least, most}), -1, least, true},
		{puts([2]int{-1, least}, [2]int{most, 1}, [2]int{least, most}), most, 1, true},
		{puts([2]int{-1, least}, [2]int{most, 1}, [2]int{least, most}), least, most, true},
		{long, 0, 1099, true}, {long, 1, 1097, true}, {long, 2, 1098, true}, {long, 3, 0, false},
	} {
		was := slices.Clone(c.b)
		if v, is := buffer.Newest(c.b, c.at); v != c.want || is != c.is {
			t.Errorf("Newest(%v, %d) = %d, %v, want %d, %v", was, c.at, v, is, c.want, c.is)
		}
		if !slices.Equal(c.b, was) {
			t.Errorf("Newest changed %v to %v", was, c.b)
		}
	}
}

// P2.1: Pop takes out the oldest put alone; rows are of any length.
func TestPop(t *testing.T) {
	for _, n := range []int{1, 2, 3, 8, 9, 1000} {
		b := row(n)
		p, rest, e := buffer.Pop(b)
		if e != api.OK || p != row(n)[0] || !slices.Equal(rest, row(n)[1:]) {
			t.Errorf("Pop of %d = %v, %v, %v", n, p, rest, e)
		}
		for i := range rest {
			rest[i] = api.Put{At: -9, Value: -9}
		}
		_ = append(rest, api.Put{At: -8, Value: -8})
		if !slices.Equal(b, row(n)) {
			t.Errorf("Pop of %d: shared with, or changed, what was handed in: %v", n, b)
		}
	}
	for _, b := range [][]api.Put{nil, {}, row(3)[:0]} {
		if p, rest, e := buffer.Pop(b); e != api.ErrNone || p != (api.Put{}) || len(rest) != 0 {
			t.Errorf("Pop of an empty one = %v, %v, %v", p, rest, e)
		}
	}
}

// P2.1: what is pushed comes out in the order in which it came.
func TestPushAndPopInOrder(t *testing.T) {
	var b []api.Put
	for _, p := range row(8) {
		b, _ = buffer.Push(b, 8, p)
	}
	for i, want := range row(8) {
		p, rest, e := buffer.Pop(b)
		if e != api.OK || p != want || len(rest) != 7-i {
			t.Fatalf("the put of number %d = %v, %v, %v, want %v", i, p, rest, e, want)
		}
		b = rest
	}
	if _, _, e := buffer.Pop(b); e != api.ErrNone {
		t.Error(e)
	}
}

// P2.2: all puts are stored, the oldest first.
func TestFold(t *testing.T) {
	for _, c := range []struct {
		b    []api.Put
		want []int
	}{
		{nil, []int{0, 11, 12, 13, 0, 15}},
		{[]api.Put{}, []int{0, 11, 12, 13, 0, 15}},
		{puts([2]int{1, 5}), []int{0, 5, 12, 13, 0, 15}},
		{puts([2]int{1, 5}, [2]int{2, 6}, [2]int{1, 7}), []int{0, 7, 6, 13, 0, 15}},
		{puts([2]int{5, 1}, [2]int{5, 0}), []int{0, 11, 12, 13, 0, 0}},
		{puts([2]int{5, math.MinInt}, [2]int{1, math.MaxInt}, [2]int{2, -1}), []int{0, math.MaxInt, -1, 13, 0, math.MinInt}},
	} {
		m, was := mixed(), slices.Clone(c.b)
		want := api.Memory{Words: c.want, Tags: mixed().Tags}
		if got, k, e := buffer.Fold(m, c.b); e != api.OK || k != 0 || !same(got, want) {
			t.Errorf("Fold of %v = %v, %d, %v, want %v", was, got, k, e, want)
		}
		if !same(m, mixed()) || !slices.Equal(c.b, was) {
			t.Errorf("Fold of %v changed what was handed in: %v, %v", was, m, c.b)
		}
	}
}

// P2.2: the first put that is refused is told by its number, and why; nothing of the memory is.
func TestFoldOfRefused(t *testing.T) {
	most, least := math.MaxInt, math.MinInt
	for _, c := range []struct {
		b    []api.Put
		k    int
		want api.Errno
	}{
		{puts([2]int{0, 5}), 0, api.ErrNever},
		{puts([2]int{0, 0}), 0, api.ErrNever},
		{puts([2]int{3, 5}), 0, api.ErrFreed},
		{puts([2]int{4, 0}), 0, api.ErrFreed},
		{puts([2]int{6, 5}), 0, api.ErrRange},
		{puts([2]int{-1, 5}), 0, api.ErrRange},
		{puts([2]int{most, 5}), 0, api.ErrRange},
		{puts([2]int{least, 5}), 0, api.ErrRange},
		{puts([2]int{1, 5}, [2]int{0, 5}), 1, api.ErrNever},
		{puts([2]int{1, 5}, [2]int{2, 5}, [2]int{3, 5}, [2]int{5, 5}), 2, api.ErrFreed},
		{puts([2]int{1, 5}, [2]int{1, 5}, [2]int{1, 5}, [2]int{6, 5}), 3, api.ErrRange},
		{puts([2]int{3, 1}, [2]int{0, 1}, [2]int{6, 1}), 0, api.ErrFreed},
		{puts([2]int{5, 1}, [2]int{6, 1}, [2]int{3, 1}, [2]int{0, 1}), 1, api.ErrRange},
		{append(slices.Repeat(puts([2]int{1, 5}), 500), puts([2]int{0, 1}, [2]int{3, 1})...), 500, api.ErrNever},
	} {
		m, was := mixed(), slices.Clone(c.b)
		if got, k, e := buffer.Fold(m, c.b); e != c.want || k != c.k || !empty(got) {
			t.Errorf("Fold of %v = %v, %d, %v, want %d, %v", was, got, k, e, c.k, c.want)
		}
		if !same(m, mixed()) || !slices.Equal(c.b, was) {
			t.Errorf("Fold of %v changed what was handed in: %v, %v", was, m, c.b)
		}
	}
}

// P2.2: a memory that may not be is ErrArg, and 0, whatever waits, and where nothing does.
func TestFoldOfWrongMemories(t *testing.T) {
	for name, m := range wrong() {
		was := copied(m)
		for _, b := range [][]api.Put{nil, {}, puts([2]int{0, 1}), puts([2]int{0, 1}, [2]int{-1, 1}), puts([2]int{0, 1}, [2]int{1, 1}), row(9)} {
			if got, k, e := buffer.Fold(m, b); e != api.ErrArg || k != 0 || !empty(got) {
				t.Errorf("%s: Fold of %v = %v, %d, %v", name, b, got, k, e)
			}
		}
		if !same(m, was) {
			t.Errorf("%s: was changed", name)
		}
	}
}

// P2.2: rows are of any length, memories of the least and of the greatest.
func TestFoldOfLongRows(t *testing.T) {
	for _, words := range []int{1, 160} {
		m := live(words)
		b := make([]api.Put, 5000)
		for i := range b {
			b[i] = api.Put{At: i * 7 % words, Value: i}
		}
		want := live(words)
		for _, p := range b {
			want.Words[p.At] = p.Value
		}
		if got, k, e := buffer.Fold(m, b); e != api.OK || k != 0 || !same(got, want) {
			t.Errorf("of %d words: %v, %d, %v", words, got, k, e)
		}
	}
}

// R4, and more: what Fold answers is new memory, where nothing waits too.
func TestFoldSharesNothing(t *testing.T) {
	for _, b := range [][]api.Put{nil, {}, puts([2]int{1, 5}), puts([2]int{1, 5}, [2]int{2, 6})} {
		m := mixed()
		got, _, e := buffer.Fold(m, b)
		if e != api.OK || len(got.Words) != 6 || len(got.Tags) != 6 {
			t.Fatal(got, e)
		}
		for i := range got.Words {
			got.Words[i], got.Tags[i] = -1, -1
		}
		if !same(m, mixed()) {
			t.Errorf("Fold of %v: shared with what was handed in: %v", b, m)
		}
	}
}

// everyRow are all rows of n puts for places from least to most, each put of a value of its own.
func everyRow(n, least, most int) [][]api.Put {
	if n == 0 {
		return [][]api.Put{nil}
	}
	var all [][]api.Put
	for _, b := range everyRow(n-1, least, most) {
		for at := least; at <= most; at++ {
			all = append(all, append(slices.Clone(b), api.Put{At: at, Value: 50 + n}))
		}
	}
	return all
}

// P2.2: every row of up to three puts, for places there and not, as the words of the promise say.
func TestEveryFoldOfShortRows(t *testing.T) {
	for n := range 4 {
		for _, b := range everyRow(n, -1, 6) {
			want, k, why := mixed(), 0, api.OK
			for i, p := range b {
				stored, e := memory.Store(want, p.At, p.Value)
				if e != api.OK {
					want, k, why = api.Memory{}, i, e
					break
				}
				want = stored
			}
			if got, at, e := buffer.Fold(mixed(), b); e != why || at != k || !same(got, want) {
				t.Fatalf("Fold of %v = %v, %d, %v, want %v, %d, %v", b, got, at, e, want, k, why)
			}
		}
	}
}

// seen is what one sees who looks for the newest put for a place, and else into the memory.
func seen(t *testing.T, m api.Memory, b []api.Put, at int) int {
	t.Helper()
	if v, is := buffer.Newest(b, at); is {
		return v
	}
	v, e := memory.Load(m, at)
	if e != api.OK {
		t.Fatal(e)
	}
	return v
}

// P2.3: ahead of each put that is stored, and behind the last one, one sees what stands in the memory once all are.
func TestSeenOnTheWay(t *testing.T) {
	for n := range 6 {
		for _, b := range everyRow(n, 0, 2) {
			m := live(3)
			end, _, e := buffer.Fold(m, b)
			if e != api.OK {
				t.Fatal(e)
			}
			for rest := b; ; {
				for at := range 3 {
					if v := seen(t, m, rest, at); v != end.Words[at] {
						t.Fatalf("%v: %d is seen at %d while %v wait, want %d", b, v, at, rest, end.Words[at])
					}
				}
				last, _, e := buffer.Fold(m, rest)
				if e != api.OK || !same(last, end) {
					t.Fatalf("%v: %v once %v are stored, want %v, %v", b, last, rest, end, e)
				}
				p, others, e := buffer.Pop(rest)
				if e == api.ErrNone {
					break
				}
				if m, e = memory.Store(m, p.At, p.Value); e != api.OK {
					t.Fatal(e)
				}
				rest = others
			}
			if !same(m, end) {
				t.Fatalf("%v: %v, want %v", b, m, end)
			}
		}
	}
}

// P2.3: a put is seen at once at its place, and nowhere else.
func TestSeenWhenPushed(t *testing.T) {
	m := live(3)
	for n := range 5 {
		for _, b := range everyRow(n, 0, 2) {
			for at := range 3 {
				for _, v := range []int{0, 99} {
					pushed, e := buffer.Push(b, 5, api.Put{At: at, Value: v})
					if e != api.OK {
						t.Fatal(e)
					}
					for place := range 3 {
						want := v
						if place != at {
							want = seen(t, m, b, place)
						}
						if got := seen(t, m, pushed, place); got != want {
							t.Fatalf("%v, then %d at %d: %d is seen at %d, want %d", b, v, at, got, place, want)
						}
					}
				}
			}
		}
	}
}

// P1, R1: every call ends, none panics, and what is asked again is answered again.
func TestEveryCallEnds(t *testing.T) {
	numbers := []int{math.MinInt, math.MinInt + 1, -161, -1, 0, 1, 2, 3, 7, 8, 9, 159, 160, 161, math.MaxInt - 1, math.MaxInt}
	memories := wrong()
	memories["mixed"], memories["160 live"] = mixed(), live(160)
	for _, n := range []int{0, 1, 7, 8, 9, 300} {
		for _, a := range numbers {
			b := row(n)
			buffer.Newest(b, a)
			for _, v := range numbers {
				p := api.Put{At: a, Value: v}
				one, e := buffer.Push(b, v, p)
				two, f := buffer.Push(b, v, p)
				if e != f || !slices.Equal(one, two) {
					t.Errorf("Push of %v on %d at depth %d: %v, %v, and then %v, %v", p, n, v, one, e, two, f)
				}
				buffer.Pop(append(row(n), p))
			}
			for name, m := range memories {
				late := append(row(n), api.Put{At: a, Value: a})
				one, k, e := buffer.Fold(m, late)
				two, l, f := buffer.Fold(m, late)
				if e != f || k != l || !same(one, two) {
					t.Errorf("%s: Fold of %d puts and one at %d: %v, %d, %v, and then %v, %d, %v", name, n, a, one, k, e, two, l, f)
				}
			}
		}
	}
}
