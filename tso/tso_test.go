package tso_test

import (
	"math"
	"slices"
	"testing"

	"respite/api"
	"respite/memory"
	"respite/tso"
)

const (
	most  = math.MaxInt
	least = math.MinInt
)

// puts is a row of puts: a place and its value each.
func puts(pairs ...[2]int) []api.Put {
	var b []api.Put
	for _, p := range pairs {
		b = append(b, api.Put{At: p[0], Value: p[1]})
	}
	return b
}

// row is n puts for a place, told apart by their values.
func row(n, at int) []api.Put {
	b := make([]api.Put, n)
	for i := range b {
		b[i] = api.Put{At: at, Value: 100 + i}
	}
	return b
}

// mixed has each tag: places 1, 2 and 5 are live, 3 and 4 are freed.
func mixed() api.Memory {
	return api.Memory{Words: []int{0, 11, 12, 13, 0, 15}, Tags: []int{0, 1, 1, 2, 2, 1}}
}

// live is a memory of n words, all had; they count down from -1.
func live(n int) api.Memory {
	m := api.Memory{Words: make([]int, n), Tags: make([]int, n)}
	for i := range n {
		m.Words[i], m.Tags[i] = -1-i, api.TLive
	}
	return m
}

// made is a machine of the memory mixed.
func made(depth int, buffers ...[]api.Put) api.Tso {
	return api.Tso{Memory: mixed(), Depth: depth, Buffers: buffers}
}

// busy is a machine of four threads: the first has room, the second has none, the third's oldest put is for a freed word, of the fourth nothing waits.
func busy() api.Tso {
	return made(3,
		puts([2]int{1, 21}, [2]int{2, 22}),
		puts([2]int{2, 31}, [2]int{1, 32}, [2]int{2, 33}),
		puts([2]int{3, 41}, [2]int{0, 42}, [2]int{5, 43}),
		nil)
}

func copied(t api.Tso) api.Tso {
	c := api.Tso{Memory: api.Memory{Words: slices.Clone(t.Memory.Words), Tags: slices.Clone(t.Memory.Tags)}, Depth: t.Depth}
	for _, b := range t.Buffers {
		c.Buffers = append(c.Buffers, slices.Clone(b))
	}
	return c
}

func same(a, b api.Tso) bool {
	return slices.Equal(a.Memory.Words, b.Memory.Words) && slices.Equal(a.Memory.Tags, b.Memory.Tags) &&
		a.Depth == b.Depth && slices.EqualFunc(a.Buffers, b.Buffers, slices.Equal[[]api.Put])
}

func empty(t api.Tso) bool { return same(t, api.Tso{}) }

// wrongMemories are memories that may not be, by what is wrong with them.
func wrongMemories() map[string]api.Memory {
	return map[string]api.Memory{
		"nil":                 {},
		"no words":            {Tags: []int{1}},
		"no tags":             {Words: []int{0}},
		"a tag too few":       {Words: []int{0, 1, 2}, Tags: []int{1, 1}},
		"161 words":           live(161),
		"a tag of 3":          {Words: []int{0, 1}, Tags: []int{1, 3}},
		"a tag of -1":         {Words: []int{0, 1}, Tags: []int{-1, 1}},
		"a word never had, 5": {Words: []int{0, 5}, Tags: []int{1, 0}},
	}
}

// wrong are machines that may not be, by what is wrong with them.
func wrong() map[string]api.Tso {
	all := map[string]api.Tso{
		"nil":                             {},
		"no buffers, nil":                 made(3),
		"no buffers":                      {Memory: mixed(), Depth: 3, Buffers: [][]api.Put{}},
		"9 buffers":                       made(3, make([][]api.Put, 9)...),
		"1000 buffers":                    made(3, make([][]api.Put, 1000)...),
		"a depth of -1":                   made(-1, nil, nil),
		"a depth of 9":                    made(9, nil, nil),
		"a depth of 9, 9 puts":            made(9, row(9, 1), nil),
		"the least depth":                 made(least, nil),
		"the greatest depth":              made(most, nil),
		"a put at depth 0":                made(0, row(1, 1), nil),
		"a put at depth 0, of the last":   made(0, nil, nil, row(1, 1)),
		"a put too many":                  made(2, row(3, 1), nil),
		"a put too many, of the last":     made(7, nil, nil, row(8, 1)),
		"9 puts at depth 8":               made(8, row(9, 1)),
		"a put at -1":                     made(2, puts([2]int{-1, 1}), nil),
		"a put behind the memory":         made(2, puts([2]int{6, 1}), nil),
		"a put at the least place":        made(2, puts([2]int{least, 1}), nil),
		"a put at the greatest place":     made(2, nil, puts([2]int{most, 1})),
		"the last put of the last thread": made(2, nil, nil, puts([2]int{1, 1}, [2]int{6, 1})),
		"160 words, a put at 160":         {Memory: live(160), Depth: 1, Buffers: [][]api.Put{puts([2]int{160, 0})}},
		"1 word, a put at 1":              {Memory: live(1), Depth: 1, Buffers: [][]api.Put{puts([2]int{1, 0})}},
	}
	for name, m := range wrongMemories() {
		all["memory: "+name] = api.Tso{Memory: m, Depth: 2, Buffers: [][]api.Put{nil, nil}}
	}
	return all
}

// P3.1: New has 1 to 8 threads and a depth of 0 to 8, whatever the memory is; nothing waits.
func TestNew(t *testing.T) {
	for name, m := range map[string]api.Memory{"mixed": mixed(), "1 word": live(1), "160 words": live(160), "never had": {Words: []int{0}, Tags: []int{0}}} {
		for threads := 1; threads <= 8; threads++ {
			for depth := 0; depth <= 8; depth++ {
				got, e := tso.New(m, threads, depth)
				want := api.Tso{Memory: m, Depth: depth, Buffers: make([][]api.Put, threads)}
				if e != api.OK || !same(got, want) || !tso.Right(got) {
					t.Errorf("%s: New of %d threads at depth %d = %v, %v", name, threads, depth, got, e)
				}
			}
		}
	}
}

// P3.1: other sizes are ErrSize; a memory that may not be is ErrArg ahead of that.
func TestNewOfWrong(t *testing.T) {
	for _, c := range [][2]int{{0, 0}, {9, 0}, {-1, 3}, {least, 1}, {most, 1}, {1, -1}, {8, 9}, {1, least}, {1, most}, {0, 9}, {9, -1}} {
		if got, e := tso.New(mixed(), c[0], c[1]); e != api.ErrSize || !empty(got) {
			t.Errorf("New of %d threads at depth %d = %v, %v", c[0], c[1], got, e)
		}
	}
	for name, m := range wrongMemories() {
		for _, c := range [][2]int{{1, 0}, {8, 8}, {0, 0}, {9, 0}, {1, 9}, {1, -1}} {
			if got, e := tso.New(m, c[0], c[1]); e != api.ErrArg || !empty(got) {
				t.Errorf("%s: New of %d threads at depth %d = %v, %v", name, c[0], c[1], got, e)
			}
		}
	}
}

// P3.1: Right holds for what may be: a put's place must be there, whosever its word is.
func TestRight(t *testing.T) {
	for name, s := range map[string]api.Tso{
		"busy":                         busy(),
		"one thread, depth 0":          made(0, nil),
		"8 threads, depth 8":           made(8, make([][]api.Put, 8)...),
		"8 threads, all full":          made(8, slices.Repeat([][]api.Put{row(8, 5)}, 8)...),
		"empty lists":                  made(0, []api.Put{}, []api.Put{}),
		"full at depth 1":              made(1, row(1, 0), row(1, 5)),
		"puts for words never had":     made(2, row(2, 0)),
		"puts for freed words":         made(2, row(2, 3), row(1, 4)),
		"1 word":                       {Memory: live(1), Depth: 1, Buffers: [][]api.Put{row(1, 0)}},
		"160 words, a put at the last": {Memory: live(160), Depth: 1, Buffers: [][]api.Put{row(1, 159)}},
		"longer behind it":             made(2, make([]api.Put, 1, 20)),
	} {
		if !tso.Right(s) {
			t.Errorf("%s: may be, but is not right", name)
		}
	}
	for name, s := range wrong() {
		if tso.Right(s) {
			t.Errorf("%s: may not be, but is right", name)
		}
	}
}

// refused holds that all calls of a thread tell ErrArg, with nothing beside it, and change nothing.
func refused(t *testing.T, name string, s api.Tso, thread int) {
	t.Helper()
	was := copied(s)
	for _, at := range []int{0, 1, 3, 6, -1, least, most} {
		if v, e := tso.Load(s, thread, at); e != api.ErrArg || v != 0 {
			t.Errorf("%s: thread %d: Load at %d = %d, %v", name, thread, at, v, e)
		}
		if got, e := tso.Store(s, thread, at, 7); e != api.ErrArg || !empty(got) {
			t.Errorf("%s: thread %d: Store at %d = %v, %v", name, thread, at, got, e)
		}
		for kind := -1; kind <= 3; kind++ {
			if got, v, e := tso.Locked(s, thread, kind, at, 1, 2); e != api.ErrArg || v != 0 || !empty(got) {
				t.Errorf("%s: thread %d: Locked %d at %d = %v, %d, %v", name, thread, kind, at, got, v, e)
			}
		}
	}
	if got, e := tso.Flush(s, thread); e != api.ErrArg || !empty(got) {
		t.Errorf("%s: thread %d: Flush = %v, %v", name, thread, got, e)
	}
	if !same(s, was) {
		t.Errorf("%s: thread %d: was changed", name, thread)
	}
}

// P3.1: a machine that may not be is ErrArg ahead of all other errors.
func TestWrongMachines(t *testing.T) {
	for name, s := range wrong() {
		for _, thread := range []int{0, 1, 2, -1, 8, least, most} {
			refused(t, name, s, thread)
		}
	}
}

// P3.1: so is a thread that is not there.
func TestWrongThreads(t *testing.T) {
	for _, thread := range []int{-1, 4, 5, 8, least, most} {
		refused(t, "busy", busy(), thread)
	}
	for n := 1; n <= 8; n++ {
		s, _ := tso.New(live(7), n, 0)
		refused(t, "new", s, n)
		refused(t, "new", s, -1)
		if _, e := tso.Load(s, n-1, 0); e != api.OK {
			t.Errorf("the last of %d threads: %v", n, e)
		}
	}
}

// P3.2: a thread loads its newest put for the place, else the word; what waits elsewhere is not seen.
func TestLoad(t *testing.T) {
	for _, c := range []struct{ thread, at, want int }{
		{0, 1, 21}, {0, 2, 22}, {0, 5, 15},
		{1, 1, 32}, {1, 2, 33}, {1, 5, 15},
		{2, 1, 11}, {2, 2, 12}, {2, 5, 43},
		{3, 1, 11}, {3, 2, 12}, {3, 5, 15},
	} {
		s := busy()
		if v, e := tso.Load(s, c.thread, c.at); v != c.want || e != api.OK {
			t.Errorf("thread %d: Load at %d = %d, %v, want %d", c.thread, c.at, v, e, c.want)
		}
		if !same(s, busy()) {
			t.Errorf("thread %d: Load at %d changed the machine: %v", c.thread, c.at, s)
		}
	}
	s := made(8, puts([2]int{1, 9}, [2]int{1, 0}, [2]int{2, most}, [2]int{2, least}))
	for at, want := range map[int]int{1: 0, 2: least} {
		if v, e := tso.Load(s, 0, at); v != want || e != api.OK {
			t.Errorf("Load at %d = %d, %v, want %d", at, v, e, want)
		}
	}
}

// refusals are places of the memory mixed that can't be loaded, and why.
func refusals() map[int]api.Errno {
	return map[int]api.Errno{0: api.ErrNever, 3: api.ErrFreed, 4: api.ErrFreed, 6: api.ErrRange, -1: api.ErrRange, 160: api.ErrRange, least: api.ErrRange, most: api.ErrRange}
}

// P3.2: the memory's error is told, of a place too for which a put of the thread waits.
func TestLoadOfRefused(t *testing.T) {
	for at, want := range refusals() {
		for thread := range 4 {
			if v, e := tso.Load(busy(), thread, at); e != want || v != 0 {
				t.Errorf("thread %d: Load at %d = %d, %v, want %v", thread, at, v, e, want)
			}
		}
	}
}

// P3.2: what is stored waits behind all other puts of the thread, while there is room.
func TestStoreThatWaits(t *testing.T) {
	for depth := 1; depth <= 8; depth++ {
		for n := range depth {
			for _, p := range puts([2]int{1, 7}, [2]int{2, 0}, [2]int{5, least}, [2]int{1, most}) {
				other := row(depth, 2)
				s := made(depth, other, row(n, 3), nil)
				got, e := tso.Store(s, 1, p.At, p.Value)
				if want := made(depth, other, append(row(n, 3), p), nil); e != api.OK || !same(got, want) {
					t.Errorf("Store of %v behind %d at depth %d = %v, %v", p, n, depth, got, e)
				}
				if !same(s, made(depth, row(depth, 2), row(n, 3), nil)) {
					t.Errorf("Store of %v behind %d at depth %d changed the machine: %v", p, n, depth, s)
				}
			}
		}
	}
}

// P3.2: with a depth of 0 the word is another one at once.
func TestStoreAtOnce(t *testing.T) {
	for _, at := range []int{1, 2, 5} {
		for _, v := range []int{0, 7, least, most} {
			for thread := range 2 {
				s := made(0, nil, nil)
				want := made(0, nil, nil)
				want.Memory.Words[at] = v
				if got, e := tso.Store(s, thread, at, v); e != api.OK || !same(got, want) {
					t.Errorf("thread %d: Store of %d at %d = %v, %v", thread, v, at, got, e)
				}
				if !same(s, made(0, nil, nil)) {
					t.Errorf("thread %d: Store of %d at %d changed the machine: %v", thread, v, at, s)
				}
			}
		}
	}
}

// P3.2: a buffer of as many puts as the depth is takes no more, while others have room.
func TestStoreOfFull(t *testing.T) {
	for depth := 1; depth <= 8; depth++ {
		s := made(depth, nil, row(depth, 1), row(depth-1, 1))
		if got, e := tso.Store(s, 1, 1, 7); e != api.ErrFull || !empty(got) {
			t.Errorf("Store at depth %d = %v, %v", depth, got, e)
		}
		for _, thread := range []int{0, 2} {
			if _, e := tso.Store(s, thread, 1, 7); e != api.OK {
				t.Errorf("thread %d: Store at depth %d: %v", thread, depth, e)
			}
		}
	}
}

// P3.2: the memory's error is told at once, and ahead of ErrFull, at each depth.
func TestStoreOfRefused(t *testing.T) {
	for at, want := range refusals() {
		for depth := range 9 {
			for _, s := range []api.Tso{made(depth, nil), made(depth, row(depth, 1)), made(depth, row(depth, 3))} {
				if got, e := tso.Store(s, 0, at, 7); e != want || !empty(got) {
					t.Errorf("Store at %d behind %d at depth %d = %v, %v, want %v", at, len(s.Buffers[0]), depth, got, e, want)
				}
			}
		}
	}
}

// P3.3: the oldest put alone is gone from the thread's buffer, and stands in the memory.
func TestFlush(t *testing.T) {
	s, e := tso.Flush(busy(), 1)
	want := busy()
	want.Memory.Words[2], want.Buffers[1] = 31, puts([2]int{1, 32}, [2]int{2, 33})
	if e != api.OK || !same(s, want) {
		t.Errorf("the first: %v, %v", s, e)
	}
	was := copied(s)
	if _, e = tso.Flush(s, 1); e != api.OK || !same(s, was) {
		t.Errorf("Flush changed what was handed in: %v, %v", s, e)
	}
	s, e = tso.Flush(s, 1)
	want.Memory.Words[1], want.Buffers[1] = 32, puts([2]int{2, 33})
	if e != api.OK || !same(s, want) {
		t.Errorf("the second: %v, %v", s, e)
	}
	s, e = tso.Flush(s, 1)
	want.Memory.Words[2], want.Buffers[1] = 33, nil
	if e != api.OK || !same(s, want) {
		t.Errorf("the third: %v, %v", s, e)
	}
	if got, e := tso.Flush(s, 1); e != api.ErrNone || !empty(got) {
		t.Errorf("the fourth: %v, %v", got, e)
	}
}

// P3.3: where nothing of the thread waits there is nothing to flush, whatever waits of others.
func TestFlushOfNone(t *testing.T) {
	for name, s := range map[string]api.Tso{"busy": busy(), "depth 0": made(0, nil, nil, nil, nil), "empty lists": made(8, row(8, 1), nil, row(1, 3), []api.Put{})} {
		if got, e := tso.Flush(s, 3); e != api.ErrNone || !empty(got) {
			t.Errorf("%s: Flush = %v, %v", name, got, e)
		}
	}
}

// P3.3: the memory may refuse the oldest put; those behind it are not looked at.
func TestFlushOfRefused(t *testing.T) {
	for at, want := range map[int]api.Errno{0: api.ErrNever, 3: api.ErrFreed, 4: api.ErrFreed} {
		for _, v := range []int{0, 7} {
			s := made(3, row(3, 1), puts([2]int{at, v}, [2]int{1, 5}))
			was := copied(s)
			if got, e := tso.Flush(s, 1); e != want || !empty(got) || !same(s, was) {
				t.Errorf("Flush of a put at %d = %v, %v, want %v", at, got, e, want)
			}
			late := made(3, nil, puts([2]int{1, 5}, [2]int{at, v}))
			if got, e := tso.Flush(late, 1); e != api.OK || got.Memory.Words[1] != 5 || !slices.Equal(got.Buffers[1], puts([2]int{at, v})) {
				t.Errorf("Flush ahead of a put at %d = %v, %v", at, got, e)
			}
		}
	}
}

// P3.4: the word is told as it was, and becomes what the operation makes of it, whatever waits of others.
func TestLocked(t *testing.T) {
	for _, c := range []struct{ kind, word, a, b, want int }{
		{api.LCas, 5, 5, 7, 7}, {api.LCas, 5, 4, 7, 5}, {api.LCas, 5, 7, 5, 5}, {api.LCas, 0, 0, 0, 0},
		{api.LCas, 0, 0, -1, -1}, {api.LCas, least, least, most, most}, {api.LCas, most, least, 3, most}, {api.LCas, 1, 2, 1, 1},
		{api.LXchg, 5, 7, 9, 7}, {api.LXchg, 5, 5, 9, 5}, {api.LXchg, 5, 0, 9, 0}, {api.LXchg, 0, least, 9, least},
		{api.LAdd, 5, 2, 9, 7}, {api.LAdd, 5, 0, 9, 5}, {api.LAdd, 5, -7, 9, -2}, {api.LAdd, 0, most, 9, most},
		{api.LAdd, most, 1, 9, least}, {api.LAdd, least, -1, 9, most}, {api.LAdd, least, least, 9, 0}, {api.LAdd, most, most, 9, -2},
	} {
		for _, at := range []int{1, 2, 5} {
			s := busy()
			s.Memory.Words[at] = c.word
			was, want := copied(s), copied(s)
			want.Memory.Words[at] = c.want
			got, v, e := tso.Locked(s, 3, c.kind, at, c.a, c.b)
			if e != api.OK || v != c.word || !same(got, want) {
				t.Errorf("Locked %d at %d of %d with %d, %d = %v, %d, %v, want %d", c.kind, at, c.word, c.a, c.b, got, v, e, c.want)
			}
			if !same(s, was) {
				t.Errorf("Locked %d at %d changed the machine: %v", c.kind, at, s)
			}
		}
	}
}

// P3.4: a kind that is none is ErrArg, what waits of the thread is ErrState, and the memory's error comes last.
func TestLockedOfRefused(t *testing.T) {
	places := refusals()
	places[1] = api.OK
	for at, why := range places {
		for thread := range 4 {
			for _, kind := range []int{-1, 3, 4, least, most} {
				if got, v, e := tso.Locked(busy(), thread, kind, at, 1, 2); e != api.ErrArg || v != 0 || !empty(got) {
					t.Errorf("thread %d: Locked %d at %d = %v, %d, %v", thread, kind, at, got, v, e)
				}
			}
			want := api.ErrState
			if thread == 3 {
				want = why
			}
			for kind := range 3 {
				got, v, e := tso.Locked(busy(), thread, kind, at, 1, 2)
				if e != want || e != api.OK && (v != 0 || !empty(got)) {
					t.Errorf("thread %d: Locked %d at %d = %v, %d, %v, want %v", thread, kind, at, got, v, e, want)
				}
			}
		}
	}
}

// P3.4: with a depth of 0 nothing ever waits: operations go on behind stores.
func TestLockedAtDepthNone(t *testing.T) {
	s := made(0, nil, nil)
	s, e := tso.Store(s, 0, 1, 5)
	if e != api.OK {
		t.Fatal(e)
	}
	for i, c := range []struct{ kind, told, want int }{{api.LAdd, 5, 7}, {api.LXchg, 7, 2}, {api.LCas, 2, 9}, {api.LCas, 9, 9}} {
		after, v, e := tso.Locked(s, i%2, c.kind, 1, 2, 9)
		if e != api.OK || v != c.told || after.Memory.Words[1] != c.want {
			t.Fatalf("operation %d = %v, %d, %v, want %d, %d", i, after, v, e, c.told, c.want)
		}
		s = after
	}
}

// scribble changes each number in a machine's lists, and writes behind its puts.
func scribble(s api.Tso) {
	for i := range s.Memory.Words {
		s.Memory.Words[i] = -9
	}
	for i := range s.Memory.Tags {
		s.Memory.Tags[i] = -8
	}
	for i, b := range s.Buffers {
		for j := range b {
			b[j] = api.Put{At: -7, Value: -7}
		}
		s.Buffers[i] = append(b, api.Put{At: -6, Value: -6})
	}
}

// R1, R4, and more: what is answered shares no list with what was handed in, where nothing is changed too.
func TestAnswersShareNothing(t *testing.T) {
	calls := map[string]func(s api.Tso) (api.Tso, api.Errno){
		"New":          func(s api.Tso) (api.Tso, api.Errno) { return tso.New(s.Memory, 4, 3) },
		"Store":        func(s api.Tso) (api.Tso, api.Errno) { return tso.Store(s, 0, 5, 7) },
		"Store, first": func(s api.Tso) (api.Tso, api.Errno) { return tso.Store(s, 3, 5, 7) },
		"Flush":        func(s api.Tso) (api.Tso, api.Errno) { return tso.Flush(s, 1) },
		"Locked": func(s api.Tso) (api.Tso, api.Errno) {
			got, _, e := tso.Locked(s, 3, api.LAdd, 1, 2, 0)
			return got, e
		},
		"Locked, other": func(s api.Tso) (api.Tso, api.Errno) {
			got, _, e := tso.Locked(s, 3, api.LCas, 1, 2, 0)
			return got, e
		},
	}
	for name, call := range calls {
		s := busy()
		for i, b := range s.Buffers {
			// Room behind the puts: nothing may be written there.
			s.Buffers[i] = append(make([]api.Put, 0, 9), b...)
		}
		one, e := call(s)
		two, f := call(s)
		if e != api.OK || f != api.OK || !same(one, two) {
			t.Fatalf("%s: %v, %v, and then %v, %v", name, one, e, two, f)
		}
		was := copied(one)
		scribble(two)
		if !same(one, was) || !same(s, busy()) {
			t.Errorf("%s: shares with another answer, or with what was handed in: %v, %v", name, one, s)
		}
		for i, b := range s.Buffers {
			if behind := b[len(b):cap(b)]; slices.ContainsFunc(behind, func(p api.Put) bool { return p != api.Put{} }) {
				t.Errorf("%s: wrote behind the puts of thread %d: %v", name, i, behind)
			}
		}
	}
}

// R4, and more: so with a depth of 0, where no put is behind another one.
func TestAnswersAtDepthNoneShareNothing(t *testing.T) {
	for name, call := range map[string]func(s api.Tso) (api.Tso, api.Errno){
		"Store": func(s api.Tso) (api.Tso, api.Errno) { return tso.Store(s, 1, 5, 7) },
		"Locked": func(s api.Tso) (api.Tso, api.Errno) {
			got, _, e := tso.Locked(s, 1, api.LXchg, 5, 7, 0)
			return got, e
		},
	} {
		s := made(0, nil, nil)
		got, e := call(s)
		if e != api.OK {
			t.Fatal(name, e)
		}
		scribble(got)
		if !same(s, made(0, nil, nil)) {
			t.Errorf("%s: shares with what was handed in: %v", name, s)
		}
	}
}

// R1, and more: no two lists of one answer are one, if those handed in are.
func TestListsOfOneAnswer(t *testing.T) {
	ones := []int{1, 1, 1, 1, 1, 1}
	shared := row(2, 1)
	s := api.Tso{Memory: api.Memory{Words: ones, Tags: ones}, Depth: 3, Buffers: [][]api.Put{shared, shared, nil, shared[:1]}}
	for _, after := range []func() (api.Tso, api.Errno){
		func() (api.Tso, api.Errno) { return tso.Store(s, 2, 5, 1) },
		func() (api.Tso, api.Errno) { return tso.Flush(s, 3) },
		func() (api.Tso, api.Errno) { return tso.New(s.Memory, 4, 3) },
	} {
		got, e := after()
		if e != api.OK {
			t.Fatal(e)
		}
		was := copied(got)
		for i := range got.Memory.Words {
			got.Memory.Words[i] = -9
		}
		for i := range got.Buffers[0] {
			got.Buffers[0][i] = api.Put{At: -7, Value: -7}
		}
		if !slices.Equal(got.Memory.Tags, was.Memory.Tags) || !slices.EqualFunc(got.Buffers[1:], was.Buffers[1:], slices.Equal[[]api.Put]) {
			t.Errorf("lists of one answer are shared: %v, was %v", got, was)
		}
	}
}

// store is one that was made: it is flushed, or it waits still.
type store struct {
	thread, at, value int
	flushed           bool
}

// story is what happened on a machine of two threads and two words, told without a buffer: all stores in their order, and the words.
type story struct {
	stores []store
	words  [2]int
}

// waits are the numbers of a thread's stores that are not flushed.
func (s story) waits(thread int) []int {
	var all []int
	for i, p := range s.stores {
		if p.thread == thread && !p.flushed {
			all = append(all, i)
		}
	}
	return all
}

// sees is what a thread must see at a place.
func (s story) sees(thread, at int) int {
	v := s.words[at]
	for _, i := range s.waits(thread) {
		if s.stores[i].at == at {
			v = s.stores[i].value
		}
	}
	return v
}

func (s story) copied() story {
	s.stores = slices.Clone(s.stores)
	return s
}

// agree holds that both threads see at both places what the story says.
func agree(t *testing.T, s api.Tso, told story) {
	t.Helper()
	if !tso.Right(s) {
		t.Fatalf("%v may not be, behind %v", s, told)
	}
	for thread := range 2 {
		for at := range 2 {
			if v, e := tso.Load(s, thread, at); e != api.OK || v != told.sees(thread, at) {
				t.Fatalf("thread %d sees %d at %d, %v, want %d, behind %v", thread, v, at, e, told.sees(thread, at), told)
			}
		}
	}
}

// storeNext is the machine and the story with one more store, of a value of its own; false, if there is no room.
func storeNext(t *testing.T, s api.Tso, told story, thread, at int) (api.Tso, story, bool) {
	t.Helper()
	p := store{thread: thread, at: at, value: 10 * (1 + len(told.stores))}
	got, e := tso.Store(s, thread, at, p.value)
	if s.Depth > 0 && len(told.waits(thread)) == s.Depth {
		if e != api.ErrFull {
			t.Fatalf("thread %d stores at %d: %v behind %v", thread, at, e, told)
		}
		return s, told, false
	}
	if e != api.OK {
		t.Fatalf("thread %d stores at %d: %v behind %v", thread, at, e, told)
	}
	told = told.copied()
	if s.Depth == 0 {
		p.flushed, told.words[at] = true, p.value
	}
	told.stores = append(told.stores, p)
	return got, told, true
}

// flushNext is the machine and the story with a thread's oldest store flushed; false, if there is none.
func flushNext(t *testing.T, s api.Tso, told story, thread int) (api.Tso, story, bool) {
	t.Helper()
	got, e := tso.Flush(s, thread)
	all := told.waits(thread)
	if len(all) == 0 {
		if e != api.ErrNone {
			t.Fatalf("thread %d flushes: %v behind %v", thread, e, told)
		}
		return s, told, false
	}
	if e != api.OK {
		t.Fatalf("thread %d flushes: %v behind %v", thread, e, told)
	}
	told = told.copied()
	p := &told.stores[all[0]]
	p.flushed, told.words[p.at] = true, p.value
	return got, told, true
}

// addNext is the machine and the story with 1 added to a word at once; false, if it isn't the time for that.
func addNext(t *testing.T, s api.Tso, told story, thread, at int) (api.Tso, story, bool) {
	t.Helper()
	got, v, e := tso.Locked(s, thread, api.LAdd, at, 1, 0)
	if len(told.waits(thread)) > 0 {
		if e != api.ErrState {
			t.Fatalf("thread %d adds at %d: %v behind %v", thread, at, e, told)
		}
		return s, told, false
	}
	if e != api.OK || v != told.words[at] {
		t.Fatalf("thread %d adds at %d: %d, %v behind %v", thread, at, v, e, told)
	}
	told.words[at]++
	return got, told, true
}

// P3.5: whatever two threads do at two words, each sees its own stores at once, and the other's when they are flushed, in their order.
func TestSeenInOrder(t *testing.T) {
	for depth := range 4 {
		start, e := tso.New(api.Memory{Words: []int{0, 0}, Tags: []int{1, 1}}, 2, depth)
		if e != api.OK {
			t.Fatal(e)
		}
		var on func(s api.Tso, told story, left int)
		on = func(s api.Tso, told story, left int) {
			agree(t, s, told)
			if left == 0 {
				return
			}
			for thread := range 2 {
				for at := range 2 {
					if after, more, done := storeNext(t, s, told, thread, at); done {
						on(after, more, left-1)
					}
					if after, more, done := addNext(t, s, told, thread, at); done {
						on(after, more, left-1)
					}
				}
				if after, more, done := flushNext(t, s, told, thread); done {
					on(after, more, left-1)
				}
			}
		}
		on(start, story{}, 5)
	}
}

// P3.5: who sees a thread's later store sees its earlier ones; with a put of one's own for a place, one sees that.
func TestOrderOfOneThread(t *testing.T) {
	s, _ := tso.New(live(4), 2, 8)
	for at := range 4 {
		s, _ = tso.Store(s, 0, at, 50+at)
	}
	s, _ = tso.Store(s, 1, 2, 99)
	for flushed := 0; ; flushed++ {
		for at := range 4 {
			other := -1 - at
			if at < flushed {
				other = 50 + at
			}
			if at == 2 {
				other = 99
			}
			if v, e := tso.Load(s, 1, at); v != other || e != api.OK {
				t.Errorf("%d are flushed: the other one sees %d at %d, %v, want %d", flushed, v, at, e, other)
			}
			if v, e := tso.Load(s, 0, at); v != 50+at || e != api.OK {
				t.Errorf("%d are flushed: the thread sees %d at %d, %v", flushed, v, at, e)
			}
		}
		after, e := tso.Flush(s, 0)
		if e == api.ErrNone && flushed == 4 {
			return
		}
		if e != api.OK {
			t.Fatal(flushed, e)
		}
		s = after
	}
}

// P3.5: with a depth of 0 all eight see each store at once.
func TestAllSeeAtOnce(t *testing.T) {
	s, _ := tso.New(live(3), 8, 0)
	for i := range 24 {
		after, e := tso.Store(s, i%8, i%3, 100+i)
		if e != api.OK {
			t.Fatal(e)
		}
		s = after
		for thread := range 8 {
			if v, e := tso.Load(s, thread, i%3); v != 100+i || e != api.OK {
				t.Errorf("thread %d sees %d behind store %d, %v", thread, v, i, e)
			}
		}
	}
}

// P3.2, P3.3: a word that is given back while a put for it waits can't be loaded by who put it, and the put is refused.
func TestPutForWordGivenBack(t *testing.T) {
	s, _ := tso.New(mixed(), 1, 2)
	s, _ = tso.Store(s, 0, 1, 5)
	freed, e := memory.Mark(s.Memory, 1, 1, api.TFreed)
	if e != api.OK {
		t.Fatal(e)
	}
	s.Memory = freed
	if !tso.Right(s) {
		t.Error("may be, but is not right")
	}
	if v, e := tso.Load(s, 0, 1); v != 0 || e != api.ErrFreed {
		t.Error(v, e)
	}
	if got, e := tso.Flush(s, 0); e != api.ErrFreed || !empty(got) {
		t.Error(got, e)
	}
}

// The chapter's examples.
func TestExamples(t *testing.T) {
	m, _ := memory.New(1)
	m, _ = memory.Mark(m, 0, 1, api.TLive)
	s, _ := tso.New(m, 2, 1)
	s, _ = tso.Store(s, 0, 0, 5)
	own, _ := tso.Load(s, 0, 0)
	other, _ := tso.Load(s, 1, 0)
	if own != 5 || other != 0 {
		t.Error(own, other)
	}
	s, _ = tso.Flush(s, 0)
	if v, e := tso.Load(s, 1, 0); v != 5 || e != api.OK {
		t.Error(v, e)
	}
	s, v, e := tso.Locked(s, 1, api.LAdd, 0, 2, 0)
	if v != 5 || e != api.OK || s.Memory.Words[0] != 7 {
		t.Error(s, v, e)
	}
}

// P1, R1: every call ends, none panics, and what is asked again is answered again.
func TestEveryCallEnds(t *testing.T) {
	numbers := []int{least, least + 1, -1, 0, 1, 2, 3, 5, 6, 7, 8, 9, 160, most - 1, most}
	machines := wrong()
	machines["busy"], machines["full"] = busy(), made(8, slices.Repeat([][]api.Put{row(8, 5)}, 8)...)
	machines["at once"] = made(0, nil, []api.Put{})
	for name, s := range machines {
		was := copied(s)
		for _, a := range numbers {
			for _, b := range numbers {
				tso.New(s.Memory, a, b)
				tso.Load(s, a, b)
				tso.Flush(s, a)
				one, e := tso.Store(s, a, b, a)
				two, f := tso.Store(s, a, b, a)
				if e != f || !same(one, two) {
					t.Errorf("%s: Store of thread %d at %d: %v, %v, and then %v, %v", name, a, b, one, e, two, f)
				}
				for _, kind := range []int{least, -1, 0, 1, 2, 3, most} {
					tso.Locked(s, a, kind, b, a, b)
				}
			}
		}
		if !same(s, was) {
			t.Errorf("%s: was changed", name)
		}
	}
}
