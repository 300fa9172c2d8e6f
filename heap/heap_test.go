package heap_test

import (
	"fmt"
	"math"
	"math/rand"
	"slices"
	"strconv"
	"strings"
	"testing"

	"respite/api"
	"respite/asm"
	"respite/heap"
	"respite/memory"
	"respite/pool"
	"respite/sched"
	"respite/spin"
	"respite/step"
)

const (
	most  = math.MaxInt
	least = math.MinInt
)

// The chapters' lines, each ended.
const (
	lockText = `lock:
set r1 0
set r2 1
cas r1 r0 r2
zero r1 locked
wait r1 r0
jump lock
locked:
ret
unlock:
set r1 0
xchg r1 r0
ret
`
	heapText = `alloc:
move r4 r0
call lock
load r1 r4 4
zero r1 none
plus r1 r1 -1
store r1 r4 4
add r2 r4 r1
load r5 r2 5
load r3 r4 1
own r5 r3
move r0 r4
call unlock
move r0 r5
ret
none:
move r0 r4
call unlock
set r0 0
ret
free:
move r4 r0
move r5 r1
load r6 r4 1
poison:
zero r6 poisoned
plus r6 r6 -1
add r2 r5 r6
set r3 -99
store r3 r2 0
jump poison
poisoned:
fence
move r0 r4
call lock
load r6 r4 1
drop r5 r6
load r1 r4 4
add r2 r4 r1
store r5 r2 5
plus r1 r1 1
store r1 r4 4
move r0 r4
call unlock
ret
`
)

// told is all that an answer is: an empty list and none are alike.
func told(x any) string { return fmt.Sprint(x) }

// nothing tells whether the answer is the zero one.
func nothing[T any](x T) bool {
	var zero T
	return told(x) == told(zero)
}

// of is a pool with this Free, in a list of its own.
func of(size, base, many int, free ...int) api.Pool {
	return api.Pool{Size: size, Base: base, Many: many, Free: slices.Clone(free)}
}

// fresh is a memory of n words that nobody has had yet.
func fresh(n int) api.Memory { return api.Memory{Words: make([]int, n), Tags: make([]int, n)} }

// copied is the memory in lists of its own.
func copied(m api.Memory) api.Memory {
	return api.Memory{Words: slices.Clone(m.Words), Tags: slices.Clone(m.Tags)}
}

// with is the memory whose word at a place has that tag, and is so much.
func with(m api.Memory, at, tag, word int) api.Memory {
	m = copied(m)
	m.Words[at], m.Tags[at] = word, tag
	return m
}

// wrongMemories are memories that may not be.
func wrongMemories() []api.Memory {
	return []api.Memory{
		{}, fresh(0), fresh(161), {Words: make([]int, 40)}, {Tags: make([]int, 40)}, {Words: make([]int, 40), Tags: make([]int, 39)}, {Words: make([]int, 39), Tags: make([]int, 40)},
		with(fresh(40), 39, 3, 0), with(fresh(40), 0, -1, 0), with(fresh(40), 20, api.TNever, 1), with(fresh(40), 20, least, 0), with(fresh(40), 20, most, 0),
	}
}

// wrongPools are pools that may not be.
func wrongPools() []api.Pool {
	return []api.Pool{
		{}, of(0, 1, 1), of(9, 1, 1), of(1, 0, 1), of(1, 161, 0), of(1, 1, -1), of(1, 1, 17), of(1, 160, 1), of(8, 33, 16), of(2, 10, 3, 11), of(2, 10, 3, 10, 10), of(2, 10, 3, 16),
		of(least, 1, 1), of(most, 1, 1), of(1, most, 1), of(1, 1, most), of(8, 1, 1<<61), of(2, 10, 0, 10),
	}
}

// reckonedLay is what Lay tells by the chapter's words, word by word.
func reckonedLay(m api.Memory, at int, p api.Pool) (api.Memory, api.Errno) {
	if !memory.Right(m) || !pool.Right(p) {
		return api.Memory{}, api.ErrArg
	}
	words := append([]int{0, p.Size, p.Base, p.Many, len(p.Free)}, p.Free...)
	for len(words) < 5+p.Many {
		words = append(words, 0)
	}
	var wanted []int
	for i := range words {
		wanted = append(wanted, at+i)
	}
	for i := range p.Size * p.Many {
		wanted = append(wanted, p.Base+i)
	}
	for _, place := range wanted {
		if place < 0 || place >= len(m.Words) {
			return api.Memory{}, api.ErrRange
		}
	}
	often := map[int]int{}
	for _, place := range wanted {
		often[place]++
		if often[place] > 1 || m.Tags[place] == api.TLive {
			return api.Memory{}, api.ErrLive
		}
	}
	m = copied(m)
	for i, word := range words {
		m.Words[at+i], m.Tags[at+i] = word, api.TLive
	}
	for i := range p.Size * p.Many {
		if !slices.Contains(p.Free, p.Base+i/p.Size*p.Size) {
			m.Tags[p.Base+i] = api.TLive
		}
	}
	return m, api.OK
}

// laysAs holds what Lay tells against the chapter's words.
func laysAs(t *testing.T, m api.Memory, at int, p api.Pool) api.Errno {
	t.Helper()
	was, pWas := told(m), told(p)
	got, e := heap.Lay(m, at, p)
	want, why := reckonedLay(m, at, p)
	if e != why || told(got) != told(want) {
		t.Fatalf("%v, %d, %v: %v, %v\nwant %v, %v", m, at, p, got, e, want, why)
	}
	if told(m) != was || told(p) != pWas {
		t.Fatalf("%s, %d, %s were changed: %v, %v", was, at, pWas, m, p)
	}
	return e
}

// P13.1: by hand, the words and tags of pools that are laid.
func TestLay(t *testing.T) {
	for i, c := range []struct {
		n, at       int
		p           api.Pool
		words, tags []int
	}{
		{6, 0, of(3, 6, 0), []int{0, 3, 6, 0, 0, 0}, []int{1, 1, 1, 1, 1, 0}},
		{5, 0, of(8, 160, 0), []int{0, 8, 160, 0, 0}, []int{1, 1, 1, 1, 1}},
		{7, 0, of(1, 6, 1), []int{0, 1, 6, 1, 0, 0, 0}, []int{1, 1, 1, 1, 1, 1, 1}},
		{7, 0, of(1, 6, 1, 6), []int{0, 1, 6, 1, 1, 6, 0}, []int{1, 1, 1, 1, 1, 1, 0}},
		{8, 2, of(1, 1, 1), []int{0, 0, 0, 1, 1, 1, 0, 0}, []int{0, 1, 1, 1, 1, 1, 1, 1}},
		{12, 4, of(2, 1, 1, 1), []int{0, 0, 0, 0, 0, 2, 1, 1, 1, 1, 0, 0}, []int{0, 0, 0, 0, 1, 1, 1, 1, 1, 1, 0, 0}},
		{15, 1, of(2, 9, 3, 13, 9), []int{0, 0, 2, 9, 3, 2, 13, 9, 0, 0, 0, 0, 0, 0, 0}, []int{0, 1, 1, 1, 1, 1, 1, 1, 1, 0, 0, 1, 1, 0, 0}},
		{15, 1, of(2, 9, 3), []int{0, 0, 2, 9, 3, 0, 0, 0, 0, 0, 0, 0, 0, 0, 0}, []int{0, 1, 1, 1, 1, 1, 1, 1, 1, 1, 1, 1, 1, 1, 1}},
	} {
		if m, e := heap.Lay(fresh(c.n), c.at, c.p); e != api.OK || !slices.Equal(m.Words, c.words) || !slices.Equal(m.Tags, c.tags) {
			t.Errorf("%d: %v, %v", i, m, e)
		}
	}
}

// P13.1: the words of blocks stay what they are, had or not, and free ones' tags stay, too; the pool's words are new ones, whatever was freed there.
func TestLayStaysWhatItIs(t *testing.T) {
	m := fresh(14)
	for at := range m.Words {
		m.Words[at], m.Tags[at] = 100+at, api.TFreed
	}
	m = with(m, 13, api.TNever, 0)
	got, e := heap.Lay(m, 0, of(2, 8, 3, 12, 8))
	if e != api.OK || !slices.Equal(got.Words, []int{0, 2, 8, 3, 2, 12, 8, 0, 108, 109, 110, 111, 112, 0}) || !slices.Equal(got.Tags, []int{1, 1, 1, 1, 1, 1, 1, 1, 2, 2, 1, 1, 2, 0}) {
		t.Error(got, e)
	}
	laysAs(t, m, 0, of(2, 8, 3, 12, 8))
	laysAs(t, m, 0, of(2, 8, 3))
}

// P13.1, R2: ErrArg comes ahead of all else, with nothing beside it.
func TestLayOfWhatMayNotBe(t *testing.T) {
	places := []int{least, -1, 0, 1, 20, 200, most}
	for _, at := range places {
		for _, m := range wrongMemories() {
			for _, p := range append(wrongPools(), of(2, 10, 3, 12), of(1, 160, 0), of(8, 32, 16)) {
				if got, e := heap.Lay(m, at, p); e != api.ErrArg || !nothing(got) {
					t.Errorf("%v, %d, %v: %v, %v", m, at, p, got, e)
				}
			}
		}
		full := with(fresh(40), 0, api.TLive, 0)
		for _, p := range wrongPools() {
			for _, m := range []api.Memory{fresh(1), fresh(40), fresh(160), full} {
				if got, e := heap.Lay(m, at, p); e != api.ErrArg || !nothing(got) {
					t.Errorf("%v, %d, %v: %v, %v", m, at, p, got, e)
				}
			}
		}
	}
}

// P13.1: ErrRange, where a word of the pool or of a block, free or not, is not there; it comes ahead of ErrLive.
func TestLayRange(t *testing.T) {
	for i, c := range []struct {
		n, at int
		p     api.Pool
		why   api.Errno
	}{
		{20, -1, of(2, 10, 3), api.ErrRange},
		{20, least, of(2, 10, 3), api.ErrRange},
		{20, most, of(2, 10, 3), api.ErrRange},
		{20, most - 7, of(2, 10, 3), api.ErrRange},
		{20, 20, of(2, 1, 3), api.ErrRange},
		{20, 13, of(2, 1, 3), api.ErrRange},
		{20, 12, of(2, 1, 3), api.OK},
		{16, 0, of(2, 10, 3), api.OK},
		{15, 0, of(2, 10, 3), api.ErrRange},
		{15, 0, of(2, 10, 3, 14), api.ErrRange},
		{15, 0, of(2, 10, 3, 14, 12, 10), api.ErrRange},
		{16, 0, of(2, 10, 3, 14, 12, 10), api.OK},
		{1, 0, of(2, 10, 3), api.ErrRange},
		{5, 0, of(1, 5, 0), api.OK},
		{5, 0, of(1, 159, 0), api.OK},
		{4, 0, of(1, 1, 0), api.ErrRange},
		{5, 1, of(1, 1, 0), api.ErrRange},
		// Both are wrong: a word is had, or is both, and another one is not there.
		{15, 8, of(2, 10, 3), api.ErrRange},
		{7, 3, of(1, 4, 1), api.ErrRange},
		{160, 160, of(8, 32, 16), api.ErrRange},
	} {
		if m, e := heap.Lay(fresh(c.n), c.at, c.p); e != c.why || e != api.OK && !nothing(m) {
			t.Errorf("%d: %v, %v", i, m, e)
		}
		if c.why == api.ErrRange {
			full := fresh(c.n)
			for at := range full.Tags {
				full.Tags[at] = api.TLive
			}
			if m, e := heap.Lay(full, c.at, c.p); e != c.why || !nothing(m) {
				t.Errorf("%d, all had: %v, %v", i, m, e)
			}
		}
	}
}

// P13.1: ErrLive, where one word of the pool or of a block, free or not, is had; words of none else matter.
func TestLayLive(t *testing.T) {
	for _, p := range []api.Pool{of(2, 10, 3), of(2, 10, 3, 12), of(2, 10, 3, 14, 12, 10), of(1, 11, 4, 11, 14), of(3, 9, 1), of(3, 9, 1, 9), of(1, 18, 0)} {
		end := p.Base + p.Size*p.Many
		for at := range 20 {
			m := with(fresh(20), at, api.TLive, 7)
			want := api.OK
			if at >= 1 && at < 6+p.Many || at >= p.Base && at < end {
				want = api.ErrLive
			}
			if got, e := heap.Lay(m, 1, p); e != want || e != api.OK && !nothing(got) {
				t.Errorf("%v, %d had: %v, %v, want %v", p, at, got, e, want)
			}
			laysAs(t, m, 1, p)
			if e := laysAs(t, with(fresh(20), at, api.TFreed, 7), 1, p); e != api.OK {
				t.Errorf("%v, %d freed: %v", p, at, e)
			}
		}
	}
}

// P13.1: ErrLive, where a word is both the pool's and a block's, whether that is free or not.
func TestLayBoth(t *testing.T) {
	for _, p := range []api.Pool{of(2, 10, 3), of(2, 10, 3, 12), of(2, 10, 3, 10, 12, 14)} {
		for at := range 33 {
			want := api.OK
			if at > 2 && at < 16 {
				want = api.ErrLive
			}
			if e := laysAs(t, fresh(40), at, p); e != want {
				t.Errorf("%v, %d: %v, want %v", p, at, e, want)
			}
		}
	}
	// No blocks have no words, wherever they would begin.
	for at := range 16 {
		if e := laysAs(t, fresh(20), at, of(8, 10, 0)); e != api.OK {
			t.Errorf("%d: %v", at, e)
		}
	}
}

// thrownPool is a pool that may be, of which so many words at most are wanted.
func thrownPool(r *rand.Rand, size, base, many int) api.Pool {
	for {
		p, e := pool.New(1+r.Intn(size), 1+r.Intn(base), r.Intn(many+1))
		if e != api.OK {
			continue
		}
		r.Shuffle(len(p.Free), func(i, k int) { p.Free[i], p.Free[k] = p.Free[k], p.Free[i] })
		p.Free = slices.Clone(p.Free[:r.Intn(len(p.Free)+1)])
		return p
	}
}

// thrownMemory is a memory of n words, of which few are had, or were.
func thrownMemory(r *rand.Rand, n int) api.Memory {
	m, few := fresh(n), 1+r.Intn(80)
	for at := range m.Words {
		switch r.Intn(few) {
		case 0:
			m.Words[at], m.Tags[at] = r.Intn(20)-5, api.TFreed
		case 1:
			if r.Intn(4) == 0 {
				m.Words[at], m.Tags[at] = r.Intn(20)-5, api.TLive
			}
		}
	}
	return m
}

// P13.1: thrown memories, places and pools, against the chapter's words; and what is laid is read.
func TestThrownLays(t *testing.T) {
	r := rand.New(rand.NewSource(13))
	met := map[api.Errno]int{}
	for range 40000 {
		n := 1 + r.Intn(60)
		m, at, p := thrownMemory(r, n), r.Intn(n+4)-2, thrownPool(r, 4, 40, 6)
		if r.Intn(5) == 0 {
			n = 100 + r.Intn(61)
			m, at, p = thrownMemory(r, n), r.Intn(n), thrownPool(r, 8, 160, 16)
		}
		e := laysAs(t, m, at, p)
		met[e]++
		if e == api.OK {
			laid, _ := heap.Lay(m, at, p)
			if got, e := heap.Read(laid, at); e != api.OK || told(got) != told(p) || !memory.Right(laid) {
				t.Fatalf("%v, %d, %v: %v, %v", m, at, p, got, e)
			}
		}
	}
	for _, e := range []api.Errno{api.OK, api.ErrRange, api.ErrLive} {
		if met[e] < 1000 {
			t.Errorf("%v is met %d times", e, met[e])
		}
	}
}

// reckonedRead is what Read tells by the chapter's words.
func reckonedRead(m api.Memory, at int) (api.Pool, api.Errno) {
	if !memory.Right(m) {
		return api.Pool{}, api.ErrArg
	}
	var head [5]int
	for i := 1; i <= 4; i++ {
		word, e := memory.Load(m, at+i)
		if e != api.OK {
			return api.Pool{}, e
		}
		head[i] = word
	}
	if head[3] < 0 || head[3] > 16 || head[4] < 0 || head[4] > head[3] {
		return api.Pool{}, api.ErrState
	}
	p := api.Pool{Size: head[1], Base: head[2], Many: head[3]}
	for i := range head[4] {
		word, e := memory.Load(m, at+5+i)
		if e != api.OK {
			return api.Pool{}, e
		}
		p.Free = append(p.Free, word)
	}
	if !pool.Right(p) {
		return api.Pool{}, api.ErrState
	}
	return p, api.OK
}

// readsAs holds what Read tells against the chapter's words.
func readsAs(t *testing.T, m api.Memory, at int) api.Errno {
	t.Helper()
	was := told(m)
	got, e := heap.Read(m, at)
	want, why := reckonedRead(m, at)
	if e != why || told(got) != told(want) {
		t.Fatalf("%v, %d: %v, %v\nwant %v, %v", m, at, got, e, want, why)
	}
	if told(m) != was {
		t.Fatalf("%s, %d was changed: %v", was, at, m)
	}
	return e
}

// laidOut is a memory of these words from place 1 on, all had, behind one that nobody has, and ahead of another one.
func laidOut(words ...int) api.Memory {
	m := fresh(len(words) + 2)
	for i, word := range words {
		m = with(m, 1+i, api.TLive, word)
	}
	return m
}

// P13.1: by hand, what is read, and the errors in their order.
func TestRead(t *testing.T) {
	good := laidOut(0, 2, 20, 3, 2, 24, 20, 7)
	for name, c := range map[string]struct {
		m    api.Memory
		at   int
		want api.Pool
		why  api.Errno
	}{
		"a pool":                                {good, 1, of(2, 20, 3, 24, 20), api.OK},
		"a lock that is had":                    {with(good, 1, api.TLive, 1), 1, of(2, 20, 3, 24, 20), api.OK},
		"a lock that is anything":               {with(good, 1, api.TLive, most), 1, of(2, 20, 3, 24, 20), api.OK},
		"a lock that nobody had":                {with(good, 1, api.TNever, 0), 1, of(2, 20, 3, 24, 20), api.OK},
		"a lock that was freed":                 {with(good, 1, api.TFreed, 1), 1, of(2, 20, 3, 24, 20), api.OK},
		"a word behind Free that was freed":     {with(good, 8, api.TFreed, 7), 1, of(2, 20, 3, 24, 20), api.OK},
		"a word behind Free that nobody had":    {with(good, 8, api.TNever, 0), 1, of(2, 20, 3, 24, 20), api.OK},
		"a word behind Free that is not there":  {laidOut(0, 1, 20, 16, 0), 1, of(1, 20, 16), api.OK},
		"from ahead of the memory on":           {api.Memory{Words: []int{1, 5, 0, 0}, Tags: []int{1, 1, 1, 1}}, -1, of(1, 5, 0), api.OK},
		"from ahead of the memory on, one free": {api.Memory{Words: []int{1, 5, 1, 1, 5}, Tags: []int{1, 1, 1, 1, 1}}, -1, of(1, 5, 1, 5), api.OK},
		"all of a short memory":                 {api.Memory{Words: []int{0, 8, 160, 0, 0}, Tags: []int{1, 1, 1, 1, 1}}, 0, of(8, 160, 0), api.OK},
		"two ahead of the memory":               {good, -2, api.Pool{}, api.ErrRange},
		"the least place":                       {good, least, api.Pool{}, api.ErrRange},
		"the greatest place":                    {good, most, api.Pool{}, api.ErrRange},
		"the greatest place but three":          {good, most - 3, api.Pool{}, api.ErrRange},
		"behind the memory":                     {good, 10, api.Pool{}, api.ErrRange},
		"the last word":                         {good, 9, api.Pool{}, api.ErrRange},
		"size was freed":                        {with(good, 2, api.TFreed, 9), 1, api.Pool{}, api.ErrFreed},
		"base was freed":                        {with(good, 3, api.TFreed, 9), 1, api.Pool{}, api.ErrFreed},
		"many was freed":                        {with(good, 4, api.TFreed, 99), 1, api.Pool{}, api.ErrFreed},
		"how many are free was freed":           {with(good, 5, api.TFreed, 99), 1, api.Pool{}, api.ErrFreed},
		"nobody had size":                       {with(good, 2, api.TNever, 0), 1, api.Pool{}, api.ErrNever},
		"nobody had how many are free":          {with(good, 5, api.TNever, 0), 1, api.Pool{}, api.ErrNever},
		"freed ahead of never had":              {with(with(good, 3, api.TFreed, 9), 4, api.TNever, 0), 1, api.Pool{}, api.ErrFreed},
		"never had ahead of freed":              {with(with(good, 3, api.TNever, 0), 4, api.TFreed, 0), 1, api.Pool{}, api.ErrNever},
		"never had ahead of not there":          {laidOut(0, 1), 1, api.Pool{}, api.ErrNever},
		"many is -1, and the last one is freed": {with(with(good, 4, api.TLive, -1), 5, api.TFreed, 0), 1, api.Pool{}, api.ErrFreed},
		"many is -1":                            {with(good, 4, api.TLive, -1), 1, api.Pool{}, api.ErrState},
		"many is 17":                            {with(good, 4, api.TLive, 17), 1, api.Pool{}, api.ErrState},
		"many is the least":                     {with(good, 4, api.TLive, least), 1, api.Pool{}, api.ErrState},
		"many is the greatest, and all are":     {with(with(good, 4, api.TLive, most), 5, api.TLive, most), 1, api.Pool{}, api.ErrState},
		"many and how many are free are 17":     {with(with(good, 4, api.TLive, 17), 5, api.TLive, 17), 1, api.Pool{}, api.ErrState},
		"-1 are free":                           {with(good, 5, api.TLive, -1), 1, api.Pool{}, api.ErrState},
		"more are free than there are":          {with(good, 5, api.TLive, 4), 1, api.Pool{}, api.ErrState},
		"more are free, and were freed":         {with(with(good, 5, api.TLive, 4), 6, api.TFreed, 0), 1, api.Pool{}, api.ErrState},
		"the first of Free was freed":           {with(good, 6, api.TFreed, 24), 1, api.Pool{}, api.ErrFreed},
		"the last of Free was freed":            {with(good, 7, api.TFreed, 20), 1, api.Pool{}, api.ErrFreed},
		"nobody had the last of Free":           {with(good, 7, api.TNever, 0), 1, api.Pool{}, api.ErrNever},
		"Free in order, freed first":            {with(with(good, 6, api.TFreed, 0), 7, api.TNever, 0), 1, api.Pool{}, api.ErrFreed},
		"Free in order, never had first":        {with(with(good, 6, api.TNever, 0), 7, api.TFreed, 0), 1, api.Pool{}, api.ErrNever},
		"Free over the end":                     {api.Memory{Words: []int{0, 1, 20, 2, 2, 20}, Tags: []int{1, 1, 1, 1, 1, 1}}, 0, api.Pool{}, api.ErrRange},
		"Free over the end, of a wrong pool":    {api.Memory{Words: []int{0, 9, 20, 2, 2, 20}, Tags: []int{1, 1, 1, 1, 1, 1}}, 0, api.Pool{}, api.ErrRange},
		"size is 0":                             {with(good, 2, api.TLive, 0), 1, api.Pool{}, api.ErrState},
		"size is 9":                             {with(good, 2, api.TLive, 9), 1, api.Pool{}, api.ErrState},
		"size is another one":                   {with(good, 2, api.TLive, 3), 1, api.Pool{}, api.ErrState},
		"base is 0":                             {with(good, 3, api.TLive, 0), 1, api.Pool{}, api.ErrState},
		"base is 161":                           {laidOut(0, 1, 161, 0, 0), 1, api.Pool{}, api.ErrState},
		"base is another one":                   {with(good, 3, api.TLive, 21), 1, api.Pool{}, api.ErrState},
		"one is free twice":                     {with(good, 6, api.TLive, 20), 1, api.Pool{}, api.ErrState},
		"one is no block":                       {with(good, 6, api.TLive, 22+1), 1, api.Pool{}, api.ErrState},
	} {
		if p, e := heap.Read(c.m, c.at); e != c.why || told(p) != told(c.want) {
			t.Errorf("%s: %v, %v, want %v, %v", name, p, e, c.want, c.why)
		}
		readsAs(t, c.m, c.at)
	}
}

// P13.1, R2: ErrArg of a memory that may not be, at any place.
func TestReadOfWhatMayNotBe(t *testing.T) {
	for _, m := range wrongMemories() {
		for _, at := range []int{least, -2, -1, 0, 1, 35, 40, most} {
			if p, e := heap.Read(m, at); e != api.ErrArg || !nothing(p) {
				t.Errorf("%v, %d: %v, %v", m, at, p, e)
			}
		}
	}
}

// P13.1: pools that are laid, and then one or two of their words are others, at all places, against the chapter's words.
func TestThrownReads(t *testing.T) {
	r := rand.New(rand.NewSource(131))
	met := map[api.Errno]int{}
	for range 15000 {
		p, at := thrownPool(r, 8, 60, 16), r.Intn(30)
		m, e := heap.Lay(fresh(160), at, p)
		if e != api.OK {
			continue
		}
		for range r.Intn(3) {
			place := at + r.Intn(8)
			switch r.Intn(4) {
			case 0:
				m = with(m, place, api.TNever, 0)
			case 1:
				m = with(m, place, api.TFreed, m.Words[place])
			default:
				words := []int{-1, 0, 1, 2, 3, 8, 9, 15, 16, 17, 160, most, least, m.Words[place] + p.Size, m.Words[place] - 1}
				m = with(m, place, api.TLive, words[r.Intn(len(words))])
			}
		}
		met[readsAs(t, m, at)]++
		readsAs(t, m, at+r.Intn(7)-3)
	}
	for _, e := range []api.Errno{api.OK, api.ErrNever, api.ErrFreed, api.ErrState} {
		if met[e] < 500 {
			t.Errorf("%v is met %d times", e, met[e])
		}
	}
}

// P13.3: what is laid is read as it was, of all orders of all that may be free.
func TestLaidIsRead(t *testing.T) {
	var all func(p api.Pool, left []int)
	all = func(p api.Pool, left []int) {
		m, e := heap.Lay(fresh(40), 3, p)
		if e != api.OK {
			t.Fatal(p, e)
		}
		if got, e := heap.Read(m, 3); e != api.OK || told(got) != told(p) {
			t.Fatalf("%v: %v, %v", p, got, e)
		}
		for i, at := range left {
			next := p
			next.Free = append(slices.Clone(p.Free), at)
			all(next, slices.Delete(slices.Clone(left), i, i+1))
		}
	}
	for many := range 5 {
		for _, size := range []int{1, 2, 5} {
			p, e := pool.New(size, 15, many)
			if e != api.OK {
				t.Fatal(e)
			}
			left := p.Free
			p.Free = nil
			all(p, left)
		}
	}
}

// P13.2, R6: the text is the chapter's, each line of it ended.
func TestText(t *testing.T) {
	if s := heap.Text(); s != heapText {
		t.Errorf("%q, want %q", s, heapText)
	}
	// Behind the lock's it is code.
	if code, line, e := asm.Parse(spin.Text() + heap.Text()); e != api.OK || line != 0 || len(code) != 10+18+22 {
		t.Error(len(code), line, e)
	}
}

// reckoned is the program of plans by the chapter's words.
func reckoned(plans [][]int, many int) string {
	s := lockText + heapText
	for i, deeds := range plans {
		s += fmt.Sprintf("t%d:\n", i)
		d := 0
		for n, deed := range deeds {
			if deed == 1 {
				s += fmt.Sprintf("set r0 1\ncall alloc\nset r4 %d\nstore r0 r4 0\nzero r0 t%ds%d\nself r1\nplus r1 r1 1\nstore r1 r0 0\nt%ds%d:\n", 6+many+8*i+d, i, n, i, n)
				d++
			} else if d > 0 {
				d--
				s += fmt.Sprintf("set r4 %d\nload r1 r4 0\nzero r1 t%ds%d\nload r0 r1 0\nmark 7\nset r0 1\ncall free\nt%ds%d:\n", 6+many+8*i+d, i, n, i, n)
			}
		}
		s += "halt\n"
	}
	return s
}

// rows are all rows of that many takes and gives.
func rows(n int) [][]int {
	all := [][]int{nil}
	for range n {
		var next [][]int
		for _, row := range all {
			next = append(next, append(slices.Clone(row), api.HTake), append(slices.Clone(row), api.HGive))
		}
		all = next
	}
	return all
}

// thrown are plans that may be, of so many threads at most.
func thrown(r *rand.Rand, threads int) [][]int {
	plans := make([][]int, 1+r.Intn(threads))
	for i := range plans {
		for range r.Intn(9) {
			plans[i] = append(plans[i], 1+r.Intn(2))
		}
	}
	return plans
}

// same are plans of so many threads with the same deeds.
func same(threads int, deeds ...int) [][]int {
	var plans [][]int
	for range threads {
		plans = append(plans, slices.Clone(deeds))
	}
	return plans
}

// P13.2: programs that are written out.
func TestProgram(t *testing.T) {
	for _, c := range []struct {
		plans [][]int
		many  int
		want  string
	}{
		{[][]int{nil}, 0, "t0:\nhalt\n"},
		{[][]int{{}, nil, {2}}, 5, "t0:\nhalt\nt1:\nhalt\nt2:\nhalt\n"},
		{[][]int{{1}}, 0, "t0:\nset r0 1\ncall alloc\nset r4 6\nstore r0 r4 0\nzero r0 t0s0\nself r1\nplus r1 r1 1\nstore r1 r0 0\nt0s0:\nhalt\n"},
		{[][]int{{2, 2, 1}}, 16, "t0:\nset r0 1\ncall alloc\nset r4 22\nstore r0 r4 0\nzero r0 t0s2\nself r1\nplus r1 r1 1\nstore r1 r0 0\nt0s2:\nhalt\n"},
		{[][]int{{1, 2, 2}, {1}}, 2, "t0:\nset r0 1\ncall alloc\nset r4 8\nstore r0 r4 0\nzero r0 t0s0\nself r1\nplus r1 r1 1\nstore r1 r0 0\nt0s0:\nset r4 8\nload r1 r4 0\nzero r1 t0s1\nload r0 r1 0\nmark 7\nset r0 1\ncall free\nt0s1:\nhalt\n" +
			"t1:\nset r0 1\ncall alloc\nset r4 16\nstore r0 r4 0\nzero r0 t1s0\nself r1\nplus r1 r1 1\nstore r1 r0 0\nt1s0:\nhalt\n"},
	} {
		if s, e := heap.Program(c.plans, c.many); e != api.OK || s != lockText+heapText+c.want {
			t.Errorf("%v, %d: %q, %v\nwant %q behind the texts", c.plans, c.many, s, e, c.want)
		}
	}
}

// programsAs holds a program against the chapter's words.
func programsAs(t *testing.T, plans [][]int, many int) {
	t.Helper()
	was := told(plans)
	s, e := heap.Program(plans, many)
	if want := reckoned(plans, many); e != api.OK || s != want {
		t.Fatalf("%v, %d: %q, %v\nwant %q", plans, many, s, e, want)
	}
	if told(plans) != was {
		t.Fatalf("%s were changed: %v", was, plans)
	}
}

// P13.2: all plans of one thread, the same as the last of some, and thrown ones, against the chapter's words.
func TestProgramOfAll(t *testing.T) {
	for n := range 9 {
		for i, deeds := range rows(n) {
			programsAs(t, [][]int{deeds}, i%17)
			programsAs(t, [][]int{{1, 1}, nil, deeds}, (i+n)%17)
		}
	}
	r := rand.New(rand.NewSource(132))
	for i := range 500 {
		programsAs(t, thrown(r, 8), i%17)
	}
}

// P13.2: as many deeds as may be are still code.
func TestProgramOfMost(t *testing.T) {
	s, e := heap.Program(same(8, 1, 1, 1, 1, 1, 1, 1, 1), 16)
	code, line, why := asm.Parse(s)
	if e != api.OK || why != api.OK || line != 0 || len(code) != 50+8*(8*8+1) {
		t.Errorf("%v; %d instructions, line %d, %v", e, len(code), line, why)
	}
	programsAs(t, same(8, 1, 1, 1, 1, 2, 2, 2, 2), 16)
}

// refused holds that plans and a number have neither a program nor a world, and why.
func refused(t *testing.T, plans [][]int, many int, why api.Errno) {
	t.Helper()
	was := told(plans)
	if s, e := heap.Program(plans, many); e != why || s != "" {
		t.Errorf("%v, %d: %q, %v, want %v", plans, many, s, e, why)
	}
	for _, other := range [][2]int{{1, 1}, {0, 1}, {9, 9}, {8, -1}} {
		if w, e := heap.World(plans, other[0], many, other[1]); e != why || !nothing(w) {
			t.Errorf("%v, %d, %v: %v, %v, want %v", plans, many, other, w, e, why)
		}
	}
	if told(plans) != was {
		t.Errorf("%s were changed: %v", was, plans)
	}
}

// P13.2, R2: a deed that is none is ErrArg, at any place, ahead of all else.
func TestNoDeeds(t *testing.T) {
	for _, bad := range []int{0, 3, -1, -2, 4, 1 << 32, 1<<32 + 1, least, most, least + 1} {
		for threads := 1; threads <= 8; threads++ {
			for thread := range threads {
				for n := range 8 {
					plans := same(threads, 1, 2, 1, 1, 2, 1, 2, 2)
					plans[thread][n] = bad
					refused(t, plans, 1, api.ErrArg)
				}
			}
		}
		refused(t, [][]int{{bad}}, 17, api.ErrArg)
		refused(t, [][]int{{bad}}, -1, api.ErrArg)
		refused(t, [][]int{{1, 1, 1, 1, 1, 1, 1, 1, bad}}, 1, api.ErrArg)
		refused(t, [][]int{{1, 1, 1, 1, 1, 1, 1, 1, 1}, {bad}}, 1, api.ErrArg)
		refused(t, append(same(8, 1), []int{bad}), 1, api.ErrArg)
		refused(t, append(same(20, 1), []int{bad}), 99, api.ErrArg)
		refused(t, [][]int{{2, 2, bad}}, 0, api.ErrArg)
	}
}

// P13.2, R2: too few or too many plans, deeds or blocks.
func TestSizes(t *testing.T) {
	for _, plans := range [][][]int{nil, {}, make([][]int, 9), same(9, 1), make([][]int, 10), make([][]int, 100000), same(9, 1, 1, 1, 1, 1, 1, 1, 1, 1)} {
		refused(t, plans, 1, api.ErrSize)
		refused(t, plans, 17, api.ErrSize)
	}
	for threads := 1; threads <= 8; threads++ {
		for thread := range threads {
			for _, deeds := range [][]int{slices.Repeat([]int{1}, 9), slices.Repeat([]int{2}, 9), slices.Repeat([]int{2}, 1000)} {
				plans := same(threads, 1)
				plans[thread] = deeds
				refused(t, plans, 1, api.ErrSize)
			}
		}
		for _, many := range []int{-1, -2, 17, 18, 1 << 32, 1 << 61, 1 << 62, least, most} {
			refused(t, same(threads, 1), many, api.ErrSize)
			refused(t, same(threads), many, api.ErrSize)
		}
		refused(t, append(make([][]int, threads-1), slices.Repeat([]int{1}, 9)), -1, api.ErrSize)
	}
}

// reckonedWorld is the world of plans by the chapter's words.
func reckonedWorld(t *testing.T, plans [][]int, size, many, depth int) api.World {
	t.Helper()
	base := 6 + many + 8*len(plans)
	m := fresh(base + size*many)
	m.Words[2], m.Words[3], m.Words[4], m.Words[5] = size, base, many, many
	for k := range many {
		m.Words[6+k] = base + (many-1-k)*size
	}
	for at := 1; at < base; at++ {
		m.Tags[at] = api.TLive
	}
	text := reckoned(plans, many)
	code, _, e := asm.Parse(text)
	if e != api.OK {
		t.Fatal(plans, e)
	}
	w := api.World{Code: code, Tso: api.Tso{Memory: m, Depth: depth, Buffers: make([][]api.Put, len(plans))}}
	for i := range plans {
		at, e := asm.Where(text, "t"+strconv.Itoa(i))
		if e != api.OK {
			t.Fatal(plans, e)
		}
		w.Threads = append(w.Threads, api.Thread{Pc: at})
	}
	return w
}

// P13.2: worlds of all sizes, field by field; ErrSize, where there would be more than 160 words.
func TestWorldOfAllSizes(t *testing.T) {
	for threads := 1; threads <= 8; threads++ {
		for size := 1; size <= 8; size++ {
			for many := range 17 {
				plans, depth := same(threads, 1, 2), (size+many)%9
				w, e := heap.World(plans, size, many, depth)
				if 6+many+8*threads+size*many > 160 {
					if e != api.ErrSize || !nothing(w) {
						t.Errorf("%d, %d, %d: %v, %v", threads, size, many, w, e)
					}
					continue
				}
				if want := reckonedWorld(t, plans, size, many, depth); e != api.OK || told(w) != told(want) || !step.Right(w) {
					t.Fatalf("%d, %d, %d: %v, %v\nwant %v", threads, size, many, w, e, want)
				}
			}
		}
	}
}

// P13.2: the last worlds that have 160 words, and the first that would have more.
func TestWorldsOf160Words(t *testing.T) {
	for _, c := range []struct {
		threads, size, many, words int
		why                        api.Errno
	}{
		{7, 6, 14, 160, api.OK}, {8, 8, 10, 160, api.OK}, {8, 5, 15, 160, api.OK}, {1, 8, 16, 158, api.OK}, {8, 4, 16, 150, api.OK}, {1, 1, 0, 14, api.OK}, {8, 8, 0, 70, api.OK},
		{7, 8, 11, 0, api.ErrSize}, {8, 6, 13, 0, api.ErrSize}, {2, 8, 16, 0, api.ErrSize}, {8, 5, 16, 0, api.ErrSize},
	} {
		if w, e := heap.World(make([][]int, c.threads), c.size, c.many, 1); e != c.why || len(w.Tso.Memory.Words) != c.words || e != api.OK && !nothing(w) {
			t.Errorf("%v: %v, %v", c, w, e)
		}
	}
}

// P13.2: thrown plans' worlds, field by field.
func TestThrownWorlds(t *testing.T) {
	r := rand.New(rand.NewSource(133))
	for range 300 {
		plans, size, many, depth := thrown(r, 8), 1+r.Intn(4), r.Intn(10), r.Intn(9)
		was := told(plans)
		w, e := heap.World(plans, size, many, depth)
		if want := reckonedWorld(t, plans, size, many, depth); e != api.OK || told(w) != told(want) {
			t.Fatalf("%v, %d, %d, %d: %v, %v\nwant %v", plans, size, many, depth, w, e, want)
		}
		if told(plans) != was {
			t.Fatalf("%s were changed: %v", was, plans)
		}
	}
}

// P13.2, R2: no world has a size or a depth that may not be, however many blocks there are.
func TestWorldSizes(t *testing.T) {
	wrong := []int{-1, 9, 10, -8, 1 << 32, 1 << 60, 1<<60 + 1, 1 << 61, 1 << 62, least, most}
	for _, many := range []int{0, 1, 8, 16} {
		for _, bad := range append(wrong, 0) {
			if w, e := heap.World([][]int{{1, 2}}, bad, many, 1); e != api.ErrSize || !nothing(w) {
				t.Errorf("size %d, %d: %v, %v", bad, many, w, e)
			}
		}
		for _, bad := range wrong {
			if w, e := heap.World([][]int{{1, 2}}, 1, many, bad); e != api.ErrSize || !nothing(w) {
				t.Errorf("depth %d, %d: %v, %v", bad, many, w, e)
			}
		}
		for depth := range 9 {
			if w, e := heap.World([][]int{{1, 2}}, 8, many, depth); e != api.OK || w.Tso.Depth != depth {
				t.Errorf("depth %d, %d: %v, %v", depth, many, w, e)
			}
		}
	}
}

// P13.2: where two threads start, by hand: behind the fifty instructions of both texts.
func TestStarts(t *testing.T) {
	w, e := heap.World([][]int{{1, 2, 2}, nil, {2, 1}, {1}}, 1, 1, 1)
	if e != api.OK || len(w.Threads) != 4 {
		t.Fatal(w, e)
	}
	for i, at := range []int{50, 50 + 8 + 7 + 1, 50 + 16 + 1, 50 + 17 + 9} {
		if w.Threads[i].Pc != at {
			t.Errorf("%d: %d, want %d", i, w.Threads[i].Pc, at)
		}
	}
}

// The chapter's examples.
func TestExamples(t *testing.T) {
	for depth := range 9 {
		w, e := heap.World([][]int{{1, 1}}, 2, 1, depth)
		if e != api.OK {
			t.Fatal(e)
		}
		w, rounds, e := sched.Rounds(w, 1000)
		if m := w.Tso.Memory; e != api.OK || rounds == 1000 || m.Words[7] != 15 || m.Words[8] != 0 || m.Words[15] != 1 || m.Tags[15] != api.TLive || m.Tags[16] != api.TLive {
			t.Errorf("%d: %v, %d, %v", depth, m, rounds, e)
		}
		w, e = heap.World([][]int{{1, 2}}, 1, 1, depth)
		if e != api.OK {
			t.Fatal(e)
		}
		w, rounds, e = sched.Rounds(w, 1000)
		if m := w.Tso.Memory; e != api.OK || rounds == 1000 || m.Words[15] != -99 || m.Tags[15] != api.TFreed || told(w.Events) != "[{7 0 [1 15 1 1]}]" {
			t.Errorf("%d: %v, %d, %v", depth, w, rounds, e)
		}
	}
}

// keeps is how many a thread with these deeds keeps in the end.
func keeps(deeds []int) int {
	d := 0
	for _, deed := range deeds {
		if deed == api.HTake {
			d++
		} else if d > 0 {
			d--
		}
	}
	return d
}

// kept are the places that the threads' areas keep in the end, those that are 0 left out.
func kept(w api.World, plans [][]int, many int) []int {
	var l []int
	for i, deeds := range plans {
		for d := range keeps(deeds) {
			if at := w.Tso.Memory.Words[6+many+8*i+d]; at != 0 {
				l = append(l, at)
			}
		}
	}
	slices.Sort(l)
	return l
}

// among is why a world of plans may not be one that a script can come to, or "".
func among(w api.World, plans [][]int, many int) string {
	for _, thread := range w.Threads {
		if thread.State == api.SFault {
			return "a thread has faulted"
		}
	}
	gave := make([]int, len(plans))
	for _, event := range w.Events {
		if event.Kind != 7 || event.Words[0] != event.Thread+1 {
			return "a thread found another one in its block"
		}
		gave[event.Thread]++
	}
	for i, deeds := range plans {
		if gave[i] > len(deeds)/2 {
			return "a thread gave more than it took"
		}
	}
	if w.Tso.Memory.Words[1] != 0 {
		return ""
	}
	// Nobody is at work on the pool: its words are all there, and who has the blocks' words is as these tell.
	p, e := heap.Read(w.Tso.Memory, 1)
	held, why := pool.Held(p)
	if e != api.OK || why != api.OK || p.Many != many {
		return "nobody has the lock, and the pool can't be read"
	}
	for k := range p.Size * p.Many {
		live := slices.Contains(held, p.Base+k/p.Size*p.Size)
		if tag := w.Tso.Memory.Tags[p.Base+k]; (tag == api.TLive) != live {
			return "nobody has the lock, and a block is had otherwise than the pool tells"
		} else if tag == api.TFreed && w.Tso.Memory.Words[p.Base+k] != -99 {
			return "a block is freed, and not poisoned"
		}
	}
	return ""
}

// atEnd is why a world of plans in which nothing is left to do may not be so, or "".
func atEnd(w api.World, plans [][]int, many int) string {
	if why := among(w, plans, many); why != "" {
		return why
	}
	for i, thread := range w.Threads {
		if thread.State != api.SHalt || len(w.Tso.Buffers[i]) > 0 {
			return "a thread has not halted, or a put of it waits"
		}
	}
	p, e := heap.Read(w.Tso.Memory, 1)
	held, why := pool.Held(p)
	if l := kept(w, plans, many); e != api.OK || why != api.OK || w.Tso.Memory.Words[1] != 0 || !slices.Equal(held, l) {
		return fmt.Sprint("held are ", held, ", and kept ", l)
	}
	for i, deeds := range plans {
		for d := range keeps(deeds) {
			if at := w.Tso.Memory.Words[6+many+8*i+d]; at != 0 && w.Tso.Memory.Words[at] != i+1 {
				return "a block that a thread keeps has another one's word"
			}
		}
	}
	return ""
}

// key is all by which a world differs from others of one program.
func key(w api.World) string {
	var b []byte
	put := func(numbers ...int) {
		for _, n := range numbers {
			b = append(strconv.AppendInt(b, int64(n), 10), ' ')
		}
	}
	put(w.Tso.Memory.Words...)
	put(w.Tso.Memory.Tags...)
	for i, thread := range w.Threads {
		put(thread.Pc, thread.State, int(thread.Fault), len(thread.Frames), len(w.Tso.Buffers[i]))
		put(thread.Regs[:]...)
		for _, f := range thread.Frames {
			put(f.Back)
			put(f.Kept[:]...)
		}
		for _, p := range w.Tso.Buffers[i] {
			put(p.At, p.Value)
		}
	}
	// What was marked is looked at as it comes; which thread's came first changes nothing that follows.
	put(len(w.Events))
	return string(b)
}

// P13.3, P4, P5: all worlds to which any script can take a few threads; where nothing can be done, all have halted.
func TestAllScripts(t *testing.T) {
	for _, c := range []struct {
		plans             [][]int
		size, many, depth int
	}{
		{[][]int{{1, 2, 1, 1, 2}}, 2, 2, 1},
		{[][]int{{1, 1, 2, 2, 1}}, 3, 1, 8},
		{[][]int{{1}, {1}}, 1, 0, 1},
		{[][]int{{1}, {1}}, 1, 1, 0},
		{[][]int{{1}, {1}}, 2, 1, 1},
		{[][]int{{1}, {1}}, 1, 2, 2},
		{[][]int{{1, 2}, {1}}, 1, 1, 1},
		{[][]int{{1, 2}, {1, 2}}, 1, 1, 0},
		{[][]int{{1, 2}, {1, 2}}, 1, 1, 2},
		{[][]int{{1, 2}, {1, 2}}, 2, 2, 1},
		{[][]int{{1, 2}, {1, 2}}, 3, 1, 8},
		{[][]int{{1, 2, 1}, {1, 2}}, 1, 1, 1},
		{[][]int{{1, 1, 2}, {1, 2}}, 1, 2, 1},
		{[][]int{{1}, {1}, {1}}, 1, 1, 0},
	} {
		first, e := heap.World(c.plans, c.size, c.many, c.depth)
		if e != api.OK {
			t.Fatal(c, e)
		}
		met, left, ends := map[string]bool{key(first): true}, []api.World{first}, 0
		for len(left) > 0 {
			w := left[len(left)-1]
			left = left[:len(left)-1]
			if why := among(w, c.plans, c.many); why != "" {
				t.Fatalf("%v: %s: %v", c, why, w)
			}
			some := false
			for i := range 2 * len(c.plans) {
				act := step.Step
				if i%2 == api.AFlush {
					act = step.Flush
				}
				next, e := act(w, i/2)
				if e != api.OK {
					continue
				}
				some = true
				if k := key(next); !met[k] {
					met[k] = true
					left = append(left, next)
				}
			}
			if !some {
				ends++
				if why := atEnd(w, c.plans, c.many); why != "" {
					t.Fatalf("%v: %s: %v", c, why, w)
				}
			}
		}
		if ends == 0 {
			t.Errorf("%v: no script ends", c)
		}
	}
}

// P13.3, P5: thrown scripts, fair and not, of thrown plans: each world on the way, and the end that rounds take it to.
func TestThrownScripts(t *testing.T) {
	r := rand.New(rand.NewSource(134))
	for range 40 {
		plans, size, many, depth := thrown(r, 5), 1+r.Intn(3), r.Intn(5), r.Intn(9)
		w, e := heap.World(plans, size, many, depth)
		if e != api.OK {
			t.Fatal(plans, e)
		}
		// Some threads are slow, and some flush seldom.
		slow, late := 1+r.Intn(10), r.Intn(10)
		for range 600 {
			a := api.Act{Thread: r.Intn(len(plans))}
			if r.Intn(10) > late {
				a.Kind = r.Intn(2)
			}
			if a.Thread == 0 && r.Intn(slow) > 0 {
				continue
			}
			next, _, e := sched.Do(w, a)
			if why := among(next, plans, many); e != api.OK || why != "" {
				t.Fatalf("%v, %d, %d, %d: %v: %s: %v, %v", plans, size, many, depth, a, why, next, e)
			}
			w = next
		}
		ended(t, w, plans, many)
	}
}

// ended holds that rounds take a world of plans to its end.
func ended(t *testing.T, w api.World, plans [][]int, many int) api.World {
	t.Helper()
	w, made, e := sched.Rounds(w, 10000)
	if why := atEnd(w, plans, many); e != api.OK || made == 10000 || why != "" {
		t.Fatalf("%v: %s: %d rounds, %v: %v", plans, why, made, e, w)
	}
	return w
}

// P13.3, P5: when rounds go on, all halt, with few and with many deeds, in each of the greatest worlds.
func TestRoundsEnd(t *testing.T) {
	for _, c := range []struct {
		plans      [][]int
		size, many int
	}{
		{same(8, 1, 2, 1, 2, 1, 2, 1, 2), 1, 1}, {same(8, 1, 1, 1, 1, 2, 2, 2, 2), 4, 16}, {same(8, 1, 1, 1, 1, 1, 1, 1, 1), 8, 10}, {same(8), 1, 16}, {same(1, 1, 1, 1, 1, 1, 1, 1, 1), 8, 16},
		{same(8, 2, 2, 1, 2, 2, 1, 1, 1), 3, 4}, {same(3, 1, 1, 2), 2, 0},
	} {
		for _, depth := range []int{0, 1, 8} {
			w, e := heap.World(c.plans, c.size, c.many, depth)
			if e != api.OK {
				t.Fatal(c, e)
			}
			ended(t, w, c.plans, c.many)
		}
	}
}

// P13.3: what one thread's deeds do with the pool in memory is what Take and Give do, of all plans.
func TestOneThread(t *testing.T) {
	for n := range 9 {
		for i, deeds := range rows(n) {
			// The longest ones stand for many of them.
			if n < 8 || i%5 == 0 {
				alone(t, deeds, 1+i%3, i%5, i%4)
			}
		}
	}
}

// alone holds one thread's end against the pool's own calls.
func alone(t *testing.T, deeds []int, size, many, depth int) {
	t.Helper()
	plans := [][]int{deeds}
	w, e := heap.World(plans, size, many, depth)
	if e != api.OK {
		t.Fatal(deeds, e)
	}
	w = ended(t, w, plans, many)
	p, _ := pool.New(size, 14+many, many)
	area, d, marks := make([]int, 8), 0, 0
	words, tags := make([]int, size*many), make([]int, size*many)
	for _, deed := range deeds {
		if deed == api.HTake {
			var at int
			if next, place, e := pool.Take(p); e == api.OK {
				p, at = next, place
				for i := range size {
					tags[at-p.Base+i] = api.TLive
				}
				words[at-p.Base] = 1
			}
			area[d] = at
			d++
		} else if d > 0 {
			d--
			if at := area[d]; at != 0 {
				marks++
				p, _ = pool.Give(p, at)
				for i := range size {
					words[at-p.Base+i], tags[at-p.Base+i] = -99, api.TFreed
				}
			}
		}
	}
	got, e := heap.Read(w.Tso.Memory, 1)
	m := w.Tso.Memory
	if e != api.OK || told(got) != told(p) || len(w.Events) != marks || !slices.Equal(m.Words[6+many:14+many], area) || !slices.Equal(m.Words[14+many:], words) || !slices.Equal(m.Tags[14+many:], tags) {
		t.Fatalf("%v, %d, %d, %d: %v, %v, want %v, %v, %v, %v", deeds, size, many, depth, got, w, p, area, words, tags)
	}
}

// called is the world of one thread that, with registers of its own, has a routine of the heap be done on a pool at place 3, and then halts.
func called(t *testing.T, p api.Pool, routine string, block, depth int) api.World {
	t.Helper()
	m, e := heap.Lay(fresh(30), 3, p)
	if e != api.OK {
		t.Fatal(p, e)
	}
	text := spin.Text() + heap.Text() + "a:\nset r0 3\nset r1 " + strconv.Itoa(block) + "\nset r4 44\nset r5 55\nset r6 66\nset r7 77\ncall " + routine + "\nhalt\n"
	w, e := sched.New(text, []string{"a"}, m, depth)
	if e != api.OK {
		t.Fatal(e)
	}
	w, rounds, e := sched.Rounds(w, 1000)
	if e != api.OK || rounds == 1000 || w.Threads[0].State != api.SHalt || !slices.Equal(w.Threads[0].Regs[4:], []int{44, 55, 66, 77}) {
		t.Fatalf("%v, %s of %d: %v, %v", p, routine, block, w, e)
	}
	return w
}

// P13.2: alloc and free at another place: what they tell, and what is then read, is what Take and Give tell.
func TestRoutines(t *testing.T) {
	r := rand.New(rand.NewSource(135))
	for i := range 300 {
		p, e := pool.New(1+r.Intn(3), 15, 1+r.Intn(4))
		if e != api.OK {
			t.Fatal(e)
		}
		r.Shuffle(len(p.Free), func(i, k int) { p.Free[i], p.Free[k] = p.Free[k], p.Free[i] })
		p.Free = p.Free[:r.Intn(len(p.Free)+1)]
		w := called(t, p, "alloc", 5, i%9)
		want, at, why := pool.Take(p)
		if why != api.OK {
			want = p
		}
		if got, e := heap.Read(w.Tso.Memory, 3); e != api.OK || told(got) != told(want) || w.Threads[0].Regs[0] != at || w.Tso.Memory.Words[3] != 0 {
			t.Fatalf("%v: %v, %v", p, w, e)
		}
		held, _ := pool.Held(p)
		for _, at := range held {
			w = called(t, p, "free", at, i%9)
			want, _ = pool.Give(p, at)
			m := w.Tso.Memory
			if got, e := heap.Read(m, 3); e != api.OK || told(got) != told(want) || m.Words[3] != 0 {
				t.Fatalf("%v, %d: %v, %v", p, at, w, e)
			}
			for k := range p.Size {
				if m.Words[at+k] != -99 || m.Tags[at+k] != api.TFreed {
					t.Fatalf("%v, %d: %v", p, at, w)
				}
			}
		}
	}
}

// P13.3: who is held up within alloc holds all others up, and nobody has the block meanwhile.
func TestHeldUp(t *testing.T) {
	plans := [][]int{{1, 2}, {1, 2}}
	w, e := heap.World(plans, 2, 1, 4)
	if e != api.OK {
		t.Fatal(e)
	}
	own := slices.IndexFunc(w.Code, func(i api.Instr) bool { return i.Op == api.OOwn })
	for w.Threads[0].Pc != own {
		w, _, e = sched.Do(w, api.Act{Thread: 0})
		if e != api.OK {
			t.Fatal(e)
		}
	}
	var others []api.Act
	for range 100 {
		others = append(others, api.Act{Thread: 1}, api.Act{Kind: api.AFlush, Thread: 1})
	}
	w, _, e = sched.Run(w, others)
	if e != api.OK || w.Tso.Memory.Words[1] != 1 || w.Tso.Memory.Words[5] != 1 || w.Tso.Memory.Tags[23] != api.TNever || w.Threads[1].State != api.SRun {
		t.Fatalf("%v, %v", w, e)
	}
	ended(t, w, plans, 1)
}

// R1, R4: no call keeps anything, and no answer shares a list with another one, or with what was handed in.
func TestAnswersShareNothing(t *testing.T) {
	m, p := fresh(30), of(2, 15, 3, 19, 15)
	first, _ := heap.Lay(m, 3, p)
	other, _ := heap.Lay(m, 3, p)
	was := told(other)
	read, _ := heap.Read(other, 3)
	read.Free[0] = 99
	for i := range first.Words {
		first.Words[i], first.Tags[i] = 99, 99
	}
	if told(other) != was || told(m) != told(fresh(30)) || told(p) != told(of(2, 15, 3, 19, 15)) {
		t.Error(m, p, other)
	}
	if again, e := heap.Lay(m, 3, p); e != api.OK || told(again) != was {
		t.Error(again, e)
	}
	plans := [][]int{{1, 2}, {1}}
	one, _ := heap.World(plans, 2, 2, 2)
	two, _ := heap.World(plans, 2, 2, 2)
	was = told(two)
	for i := range one.Code {
		one.Code[i] = api.Instr{Op: 99}
	}
	for i := range one.Threads {
		one.Threads[i].Pc = 99
		one.Tso.Buffers[i] = []api.Put{{At: 9}}
	}
	for i := range one.Tso.Memory.Words {
		one.Tso.Memory.Words[i], one.Tso.Memory.Tags[i] = 99, 99
	}
	text, program := heap.Text(), reckoned(plans, 2)
	heap.World(nil, 99, 99, 99)
	heap.Program(same(8, 1, 1, 1, 1, 1, 1, 1, 1), 16)
	s, e := heap.Program(plans, 2)
	again, why := heap.World(plans, 2, 2, 2)
	if heap.Text() != text || s != program || e != api.OK || told(two) != was || told(again) != was || why != api.OK {
		t.Error("an answer changes another one")
	}
}

// R4: what stands behind the end of lists that are handed in stays, too.
func TestListsBehindTheirEndStay(t *testing.T) {
	free := []int{19, 15, 77, 77}
	plans := [][]int{append(make([]int, 0, 8), 1), append(make([]int, 0, 8), 1, 2)}
	words, tags := make([]int, 40), make([]int, 40)
	heap.Lay(api.Memory{Words: words[:30], Tags: tags[:30]}, 3, api.Pool{Size: 2, Base: 15, Many: 3, Free: free[:2]})
	heap.World(plans[:1], 1, 1, 1)
	if told(free) != "[19 15 77 77]" || told(plans[:2]) != "[[1] [1 2]]" || told(plans[0][:8]) != "[1 0 0 0 0 0 0 0]" || strings.Contains(told(words)+told(tags), "1") {
		t.Error(free, plans, words, tags)
	}
}

// P1: every call ends, and none panics, at arguments of all kinds.
func TestEveryCallEnds(t *testing.T) {
	numbers := []int{least, least + 1, -6, -5, -1, 0, 1, 2, 8, 9, 16, 17, 155, 160, most - 5, most - 4, most - 1, most}
	memories := append(wrongMemories(), fresh(1), fresh(40), fresh(160), laidOut(0, 2, 20, 3, 2, 24, 20, 7))
	for _, m := range memories {
		for _, at := range numbers {
			readsAs(t, m, at)
			for _, p := range append(wrongPools(), of(1, 1, 0), of(2, 10, 3, 12), of(8, 160, 0), of(8, 32, 16, 32)) {
				laysAs(t, m, at, p)
			}
		}
	}
	for _, a := range numbers {
		for _, b := range numbers {
			good := (a == 1 || a == 2) && b >= 0 && b <= 16
			if s, e := heap.Program([][]int{{a}}, b); (e == api.OK) != good || e != api.OK && s != "" {
				t.Errorf("%d, %d: %q, %v", a, b, s, e)
			}
			for _, depth := range numbers {
				right := a >= 1 && a <= 8 && b >= 0 && b <= 16 && depth >= 0 && depth <= 8
				if w, e := heap.World([][]int{{1}}, a, b, depth); (e == api.OK) != right || step.Right(w) != right || !right && e != api.ErrSize {
					t.Errorf("%d, %d, %d: %v, %v", a, b, depth, w, e)
				}
			}
		}
	}
}
