package pool_test

import (
	"fmt"
	"math"
	"math/rand"
	"slices"
	"testing"

	"respite/api"
	"respite/pool"
)

const (
	most  = math.MaxInt
	least = math.MinInt
)

// told is all that a pool is, with a nil list as an empty one.
func told(p api.Pool) string {
	return fmt.Sprint(p.Size, p.Base, p.Many, append([]int{}, p.Free...))
}

// nothing tells whether the pool is the zero one.
func nothing(p api.Pool) bool { return told(p) == told(api.Pool{}) }

// of is a pool with this Free, in a list of its own.
func of(size, base, many int, free ...int) api.Pool {
	return api.Pool{Size: size, Base: base, Many: many, Free: slices.Clone(free)}
}

// shape is a size, a base, and how many blocks there are.
type shape struct{ size, base, many int }

// may is the chapter's word for the shapes of pools that may be, told by the highest word that one may want.
func (s shape) may() bool {
	if s.size < 1 || s.size > 8 || s.many < 0 || s.many > 16 || s.base < 1 || s.base > 160 {
		return false
	}
	room := 160 - s.base
	for range s.many {
		room -= s.size
	}
	return room >= 0
}

// firsts are the first places of the shape's blocks, rising.
func (s shape) firsts() []int {
	var l []int
	at := s.base
	for len(l) < s.many {
		l = append(l, at)
		at += s.size
	}
	return l
}

// edges are shapes at the limits of what may be.
func edges() []shape {
	return []shape{
		{1, 1, 0}, {1, 1, 1}, {8, 1, 1}, {1, 160, 0}, {8, 160, 0}, {1, 159, 1}, {8, 152, 1}, {1, 144, 16}, {8, 32, 16}, {8, 1, 16},
		{1, 1, 16}, {2, 10, 3}, {3, 47, 12}, {5, 83, 2}, {7, 48, 16}, {3, 7, 5}, {4, 4, 2},
	}
}

// wrong are pools that may not be, by what is wrong with them.
func wrong() map[string]api.Pool {
	return map[string]api.Pool{
		"the zero one":                   {},
		"size 0":                         of(0, 1, 0),
		"size 0, one block":              of(0, 1, 1, 1),
		"size 9":                         of(9, 1, 1, 1),
		"size 9, no block":               of(9, 1, 0),
		"size -1":                        of(-1, 10, 2, 9, 10),
		"the least size":                 of(least, 1, 1),
		"the greatest size":              of(most, 1, 1),
		"base 0":                         of(1, 0, 1, 0),
		"base 0, no block":               of(1, 0, 0),
		"base -1":                        of(1, -1, 3, 1),
		"base 161, no block":             of(1, 161, 0),
		"the least base":                 of(1, least, 1),
		"the greatest base":              of(1, most, 1),
		"the greatest base, no block":    of(1, most, 0),
		"-1 blocks":                      of(1, 1, -1),
		"-1 blocks, one free":            of(1, 1, -1, 1),
		"17 blocks":                      of(1, 1, 17),
		"the least many":                 of(1, 1, least),
		"the greatest many":              of(1, 1, most),
		"as many as go round to nothing": of(8, 1, 1<<61),
		"as many as go round to 8":       of(8, 1, 1<<61+1),
		"a block over the end":           of(1, 160, 1),
		"a block over the end, free":     of(1, 160, 1, 160),
		"a great block over the end":     of(8, 153, 1),
		"blocks over the end":            of(8, 33, 16),
		"small blocks over the end":      of(1, 145, 16),
		"one twice":                      of(1, 1, 2, 1, 1),
		"one twice, apart":               of(2, 10, 3, 12, 10, 12),
		"one twice, and all":             of(2, 10, 3, 14, 12, 10, 14),
		"all twice":                      of(2, 10, 2, 12, 10, 12, 10),
		"one thrice":                     of(2, 10, 4, 12, 12, 12),
		"one behind the last":            of(1, 1, 2, 3),
		"one behind the last, at size 2": of(2, 10, 3, 16),
		"one ahead of the first":         of(2, 10, 3, 8),
		"place 0":                        of(1, 1, 2, 0),
		"place -1":                       of(1, 1, 2, -1),
		"the least place":                of(1, 1, 2, least),
		"the greatest place":             of(1, 1, 2, most),
		"within a block":                 of(2, 10, 3, 11),
		"within a block, among others":   of(2, 10, 3, 14, 11, 10),
		"none's instead of one, and all": of(2, 10, 3, 14, 13, 12, 10),
		"a number":                       of(2, 10, 3, 0, 1, 2),
		"of no block":                    of(1, 1, 0, 1),
		"place 0 of no block":            of(8, 160, 0, 0),
	}
}

// The chapter's examples.
func TestExamples(t *testing.T) {
	p, e := pool.New(2, 10, 3)
	if e != api.OK || told(p) != told(of(2, 10, 3, 14, 12, 10)) {
		t.Fatal(p, e)
	}
	p, a, e1 := pool.Take(p)
	p, b, e2 := pool.Take(p)
	p, e3 := pool.Give(p, 10)
	p, c, e4 := pool.Take(p)
	if a != 10 || b != 12 || c != 10 || e1 != api.OK || e2 != api.OK || e3 != api.OK || e4 != api.OK || told(p) != told(of(2, 10, 3, 14)) {
		t.Error(a, b, c, e1, e2, e3, e4, p)
	}
}

// P12.1: New has the pools whose shapes may be, with all blocks free, falling, and no others.
func TestNew(t *testing.T) {
	for size := -2; size < 12; size++ {
		for base := -2; base < 164; base++ {
			for many := -2; many < 20; many++ {
				s := shape{size, base, many}
				p, e := pool.New(size, base, many)
				if !s.may() {
					if e != api.ErrArg || !nothing(p) {
						t.Errorf("%v: %v, %v, want ErrArg alone", s, p, e)
					}
					continue
				}
				falling := s.firsts()
				slices.Reverse(falling)
				if e != api.OK || told(p) != told(of(size, base, many, falling...)) || !pool.Right(p) {
					t.Errorf("%v: %v, %v", s, p, e)
				}
			}
		}
	}
}

// P12.1: new pools that are written out, at the edges of what may be.
func TestNewAtTheEdges(t *testing.T) {
	for _, want := range []api.Pool{
		of(1, 1, 0), of(8, 160, 0), of(1, 160, 0), of(1, 159, 1, 159), of(8, 152, 1, 152), of(1, 1, 1, 1),
		of(8, 32, 16, 152, 144, 136, 128, 120, 112, 104, 96, 88, 80, 72, 64, 56, 48, 40, 32),
		of(1, 144, 16, 159, 158, 157, 156, 155, 154, 153, 152, 151, 150, 149, 148, 147, 146, 145, 144),
		of(5, 83, 2, 88, 83),
	} {
		if p, e := pool.New(want.Size, want.Base, want.Many); e != api.OK || told(p) != told(want) {
			t.Errorf("%v, %v, want %v", p, e, want)
		}
	}
}

// P12.1: numbers that would go round have no pool.
func TestNewOfGreatNumbers(t *testing.T) {
	numbers := []int{least, least + 1, -1 << 61, -1, 0, 1, 8, 16, 160, 1 << 32, 1 << 60, 1 << 61, 1<<61 + 1, 1 << 62, most - 159, most - 1, most}
	for _, size := range numbers {
		for _, base := range numbers {
			for _, many := range numbers {
				may := shape{size, base, 0}.may() && many >= 0 && many <= 16 && shape{size, base, many}.may()
				if p, e := pool.New(size, base, many); (e == api.OK) != may || pool.Right(p) != may || !may && (e != api.ErrArg || !nothing(p)) {
					t.Errorf("%d, %d, %d: %v, %v", size, base, many, p, e)
				}
				if p := (api.Pool{Size: size, Base: base, Many: many}); pool.Right(p) != may {
					t.Errorf("%v: may it be? %v", p, !may)
				}
			}
		}
	}
}

// P12.1, P1, R2: ErrArg of a pool that may not be comes ahead of all else, at each call, with nothing beside it.
func TestWrongPools(t *testing.T) {
	for name, p := range wrong() {
		was := told(p)
		if pool.Right(p) {
			t.Errorf("%s: may not be, but is right", name)
		}
		if n, at, e := pool.Take(p); e != api.ErrArg || at != 0 || !nothing(n) {
			t.Errorf("%s: %v, %d, %v, want ErrArg alone", name, n, at, e)
		}
		if l, e := pool.Held(p); e != api.ErrArg || len(l) != 0 {
			t.Errorf("%s: %v, %v, want ErrArg alone", name, l, e)
		}
		for _, at := range append([]int{least, -1, 0, 1, 2, 10, 11, 12, 160, 161, most, p.Base}, p.Free...) {
			if n, e := pool.Give(p, at); e != api.ErrArg || !nothing(n) {
				t.Errorf("%s, %d: %v, %v, want ErrArg alone", name, at, n, e)
			}
		}
		if told(p) != was {
			t.Errorf("%s: was changed", name)
		}
	}
}

// P12.1: a pool may be with any of its blocks free, in any order.
func TestRight(t *testing.T) {
	for _, p := range []api.Pool{
		of(1, 1, 0), {Size: 1, Base: 1, Free: []int{}}, of(8, 160, 0), of(1, 1, 1), of(1, 1, 1, 1), of(2, 10, 3), of(2, 10, 3, 10), of(2, 10, 3, 14), of(2, 10, 3, 10, 12, 14),
		of(2, 10, 3, 12, 14, 10), of(2, 10, 3, 14, 10), of(8, 32, 16, 152, 32), of(1, 159, 1, 159),
		{Size: 2, Base: 10, Many: 3, Free: []int{10, 99, 99}[:1]},
	} {
		was := told(p)
		if !pool.Right(p) {
			t.Errorf("%v: may be, but is not right", p)
		}
		if told(p) != was {
			t.Errorf("%s was changed: %v", was, p)
		}
	}
}

// rows are all rows of up to so many of the numbers.
func rows(numbers []int, most int) [][]int {
	all, last := [][]int{nil}, [][]int{nil}
	for range most {
		var next [][]int
		for _, row := range last {
			for _, n := range numbers {
				next = append(next, append(slices.Clone(row), n))
			}
		}
		all, last = append(all, next...), next
	}
	return all
}

// is is the chapter's word for whether Free is such that the pool may be.
func (s shape) is(free []int) bool {
	often := map[int]int{}
	for _, at := range free {
		often[at]++
		if often[at] > 1 || at < s.base || (at-s.base)%s.size != 0 || (at-s.base)/s.size >= s.many {
			return false
		}
	}
	return true
}

// P12.1, P12.2: all rows of some places, those of blocks and others, as Free, and what each call tells of them.
func TestAllRows(t *testing.T) {
	for _, s := range []shape{{1, 1, 3}, {2, 3, 3}, {3, 2, 2}, {8, 144, 2}, {1, 5, 0}, {2, 4, 1}} {
		places := append(s.firsts(), s.base-s.size, s.base+s.size*s.many, s.base+1)
		for _, free := range rows(places, 5) {
			p := of(s.size, s.base, s.many, free...)
			may := s.is(free)
			if pool.Right(p) != may {
				t.Fatalf("%v: may it be? %v", p, may)
			}
			_, _, e1 := pool.Take(p)
			_, e2 := pool.Give(p, s.base)
			_, e3 := pool.Held(p)
			if (e1 == api.ErrArg) != !may || (e2 == api.ErrArg) != !may || (e3 == api.ErrArg) != !may {
				t.Fatalf("%v: %v, %v, %v", p, e1, e2, e3)
			}
			if may {
				each(t, p)
			}
		}
	}
}

// each holds what every call tells of a pool that may be against the chapter's words.
func each(t *testing.T, p api.Pool) {
	t.Helper()
	was := told(p)
	s := shape{p.Size, p.Base, p.Many}
	var rest []int
	for _, at := range s.firsts() {
		if !slices.Contains(p.Free, at) {
			rest = append(rest, at)
		}
	}
	if l, e := pool.Held(p); e != api.OK || !slices.Equal(l, rest) {
		t.Fatalf("%v: holds %v, %v, want %v", p, l, e, rest)
	}
	n, at, e := pool.Take(p)
	if k := len(p.Free) - 1; k < 0 {
		if e != api.ErrNoMem || at != 0 || !nothing(n) {
			t.Fatalf("%v: %v, %d, %v, want ErrNoMem alone", p, n, at, e)
		}
	} else if e != api.OK || at != p.Free[k] || told(n) != told(of(s.size, s.base, s.many, p.Free[:k]...)) || !pool.Right(n) {
		t.Fatalf("%v: %v, %d, %v", p, n, at, e)
	}
	for _, at := range slices.Concat([]int{least, least + p.Base, -p.Base, most, most - 1}, upTo(170)) {
		n, e := pool.Give(p, at)
		switch {
		case !slices.Contains(s.firsts(), at):
			if e != api.ErrRange || !nothing(n) {
				t.Fatalf("%v, %d: %v, %v, want ErrRange alone", p, at, n, e)
			}
		case slices.Contains(p.Free, at):
			if e != api.ErrFreed || !nothing(n) {
				t.Fatalf("%v, %d: %v, %v, want ErrFreed alone", p, at, n, e)
			}
		default:
			if e != api.OK || told(n) != told(of(s.size, s.base, s.many, append(slices.Clone(p.Free), at)...)) || !pool.Right(n) {
				t.Fatalf("%v, %d: %v, %v", p, at, n, e)
			}
		}
	}
	if told(p) != was {
		t.Fatalf("%s was changed: %v", was, p)
	}
}

// upTo are the numbers from some below 0 up to less than n.
func upTo(n int) []int {
	var l []int
	for i := -10; i < n; i++ {
		l = append(l, i)
	}
	return l
}

// P12.2, P12.3: thrown Frees of pools at the edges.
func TestThrownPools(t *testing.T) {
	r := rand.New(rand.NewSource(12))
	for _, s := range edges() {
		for range 60 {
			free := s.firsts()
			r.Shuffle(len(free), func(i, k int) { free[i], free[k] = free[k], free[i] })
			each(t, of(s.size, s.base, s.many, free[:r.Intn(len(free)+1)]...))
		}
	}
}

// P12.2: by hand, taken and given by the last of Free, whatever stands ahead of it.
func TestTakeAndGive(t *testing.T) {
	p := of(3, 7, 4, 10, 7)
	n, at, e := pool.Take(p)
	if at != 7 || e != api.OK || told(n) != told(of(3, 7, 4, 10)) {
		t.Error(n, at, e)
	}
	n, at, e = pool.Take(n)
	if at != 10 || e != api.OK || told(n) != told(of(3, 7, 4)) {
		t.Error(n, at, e)
	}
	if l, e := pool.Held(n); e != api.OK || !slices.Equal(l, []int{7, 10, 13, 16}) {
		t.Error(l, e)
	}
	if n, at, e := pool.Take(n); e != api.ErrNoMem || at != 0 || !nothing(n) {
		t.Error(n, at, e)
	}
	for _, at := range []int{6, 8, 9, 11, 15, 17, 19, 4, 0, 1, 2, 3, -7} {
		if n, e := pool.Give(p, at); e != api.ErrRange || !nothing(n) {
			t.Error(at, n, e)
		}
	}
	for _, at := range []int{7, 10} {
		if n, e := pool.Give(p, at); e != api.ErrFreed || !nothing(n) {
			t.Error(at, n, e)
		}
	}
	p, e = pool.Give(p, 16)
	if e != api.OK || told(p) != told(of(3, 7, 4, 10, 7, 16)) {
		t.Error(p, e)
	}
	if l, e := pool.Held(p); e != api.OK || !slices.Equal(l, []int{13}) {
		t.Error(l, e)
	}
}

// P12.2: of no blocks none is taken, given or held.
func TestNoBlocks(t *testing.T) {
	for _, s := range []shape{{1, 1, 0}, {8, 160, 0}, {3, 80, 0}} {
		p, e := pool.New(s.size, s.base, 0)
		if e != api.OK || len(p.Free) != 0 {
			t.Fatal(s, p, e)
		}
		if n, at, e := pool.Take(p); e != api.ErrNoMem || at != 0 || !nothing(n) {
			t.Error(s, n, at, e)
		}
		for _, at := range []int{0, s.base, s.base + s.size, -1} {
			if n, e := pool.Give(p, at); e != api.ErrRange || !nothing(n) {
				t.Error(s, at, n, e)
			}
		}
		if l, e := pool.Held(p); e != api.OK || len(l) != 0 {
			t.Error(s, l, e)
		}
	}
}

// had is who has each word: the first place of the block, by the word's place.
type had map[int]int

// takes notes that somebody has a block's words; nobody may have one of them.
func (h had) takes(t *testing.T, s shape, at int) {
	t.Helper()
	for i := range s.size {
		if by, is := h[at+i]; is {
			t.Fatalf("%v: word %d of the block at %d is had by %d's", s, at+i, at, by)
		}
		if at+i < s.base || at+i >= s.base+s.size*s.many || at+i > 159 {
			t.Fatalf("%v: word %d of the block at %d is none of the pool's", s, at+i, at)
		}
		h[at+i] = at
	}
}

// gives notes that nobody has the block's words any more.
func (h had) gives(s shape, at int) {
	for i := range s.size {
		delete(h, at+i)
	}
}

// taken are the first places of the blocks that somebody has, rising.
func (h had) taken() []int {
	var l []int
	for word, at := range h {
		if word == at {
			l = append(l, at)
		}
	}
	slices.Sort(l)
	return l
}

// P12.3: in thrown rows of takings and givings nobody takes what another one has, no two have a word in common, and what is given back last is taken first.
func TestTakenByNobodyElse(t *testing.T) {
	r := rand.New(rand.NewSource(123))
	for _, s := range edges() {
		for range 20 {
			p, e := pool.New(s.size, s.base, s.many)
			if e != api.OK {
				t.Fatal(s, e)
			}
			words, stack, greed := had{}, p.Free, r.Intn(10)
			for range 120 {
				taken := words.taken()
				if l, e := pool.Held(p); e != api.OK || !slices.Equal(l, taken) {
					t.Fatalf("%v: %v holds %v, %v, want %v", s, p, l, e, taken)
				}
				if r.Intn(10) <= greed || len(taken) == 0 {
					n, at, e := pool.Take(p)
					if len(stack) == 0 {
						if e != api.ErrNoMem || len(taken) != s.many {
							t.Fatalf("%v: %v: %d, %v", s, p, at, e)
						}
						continue
					}
					if last := stack[len(stack)-1]; e != api.OK || at != last {
						t.Fatalf("%v: %v: %d, %v, want %d", s, p, at, e, last)
					}
					words.takes(t, s, at)
					p, stack = n, stack[:len(stack)-1]
					continue
				}
				at := taken[r.Intn(len(taken))]
				n, e := pool.Give(p, at)
				if e != api.OK {
					t.Fatalf("%v: %v, %d: %v", s, p, at, e)
				}
				words.gives(s, at)
				p, stack = n, append(slices.Clone(stack), at)
			}
		}
	}
}

// P12.3: all are taken, rising, by nobody else, and given back in thrown orders; then they are taken the other way round.
func TestLastIsFirst(t *testing.T) {
	r := rand.New(rand.NewSource(124))
	for _, s := range edges() {
		p, _ := pool.New(s.size, s.base, s.many)
		words := had{}
		for _, want := range s.firsts() {
			n, at, e := pool.Take(p)
			if at != want || e != api.OK {
				t.Fatalf("%v: %v: %d, %v, want %d", s, p, at, e, want)
			}
			words.takes(t, s, at)
			p = n
		}
		if _, _, e := pool.Take(p); e != api.ErrNoMem || len(words) != s.size*s.many {
			t.Fatalf("%v: %v: %v", s, p, e)
		}
		order := s.firsts()
		r.Shuffle(len(order), func(i, k int) { order[i], order[k] = order[k], order[i] })
		for _, at := range order {
			n, e := pool.Give(p, at)
			if e != api.OK {
				t.Fatalf("%v: %v, %d: %v", s, p, at, e)
			}
			p = n
		}
		if l, e := pool.Held(p); e != api.OK || len(l) != 0 || !slices.Equal(p.Free, order) {
			t.Fatalf("%v: %v holds %v, %v", s, p, l, e)
		}
		for _, want := range slices.Backward(order) {
			n, at, e := pool.Take(p)
			if at != want || e != api.OK {
				t.Fatalf("%v: %v: %d, %v, want %d", s, p, at, e, want)
			}
			p = n
		}
	}
}

// P12.3: a block that is taken is given back, and the pool is as it was; one that is given back is taken, and it is, too.
func TestThereAndBack(t *testing.T) {
	for _, s := range []shape{{2, 10, 3}, {8, 136, 3}, {1, 1, 3}} {
		for _, free := range rows(s.firsts(), 3) {
			if !s.is(free) {
				continue
			}
			p := of(s.size, s.base, s.many, free...)
			if n, at, e := pool.Take(p); e == api.OK {
				if n, e = pool.Give(n, at); e != api.OK || told(n) != told(p) {
					t.Errorf("%v: %v, %v", p, n, e)
				}
			}
			l, _ := pool.Held(p)
			for _, at := range l {
				n, _ := pool.Give(p, at)
				n, first, e := pool.Take(n)
				if e != api.OK || first != at || told(n) != told(p) {
					t.Errorf("%v, %d: %v, %d, %v", p, at, n, first, e)
				}
			}
		}
	}
}

// R1, R4: no call keeps anything or changes what it was handed, and no answer shares a list with another one or with an argument.
func TestSharesNothing(t *testing.T) {
	a, _ := pool.New(2, 10, 3)
	b, _ := pool.New(2, 10, 3)
	a.Free[0], a.Free[2] = 99, 99
	if c, _ := pool.New(2, 10, 3); told(b) != told(c) || told(c) != told(of(2, 10, 3, 14, 12, 10)) {
		t.Error(b, c)
	}
	// There is room behind the list, that no answer may write to.
	room := []int{14, 12, 10, 77, 77}
	p := api.Pool{Size: 2, Base: 10, Many: 4, Free: room[:3]}
	given, e := pool.Give(p, 16)
	taken, at, why := pool.Take(p)
	again, e2 := pool.Give(taken, at)
	held, e3 := pool.Held(p)
	if e != api.OK || why != api.OK || e2 != api.OK || e3 != api.OK || !slices.Equal(room, []int{14, 12, 10, 77, 77}) {
		t.Error(e, why, e2, e3, room)
	}
	for _, l := range [][]int{given.Free, taken.Free, again.Free, held} {
		if cap(l) > 0 {
			l[:1][0] = -1
		}
	}
	if !slices.Equal(room, []int{14, 12, 10, 77, 77}) {
		t.Error("an answer shares a list with its argument:", room)
	}
	if !slices.Equal(given.Free, []int{-1, 12, 10, 16}) || !slices.Equal(taken.Free, []int{-1, 12}) || !slices.Equal(again.Free, []int{-1, 12, 10}) || !slices.Equal(held, []int{-1}) {
		t.Error("answers share a list:", given, taken, again, held)
	}
}

// R1, R4: two givings and a taking of one pool do not get in one another's way.
func TestTwoFromOne(t *testing.T) {
	p, _ := pool.New(1, 1, 5)
	for range 3 {
		p, _, _ = pool.Take(p)
	}
	a, _ := pool.Give(p, 1)
	b, _ := pool.Give(p, 2)
	c, _, _ := pool.Take(a)
	d, _ := pool.Give(c, 3)
	if told(p) != told(of(1, 1, 5, 5, 4)) || told(a) != told(of(1, 1, 5, 5, 4, 1)) || told(b) != told(of(1, 1, 5, 5, 4, 2)) || told(c) != told(p) || told(d) != told(of(1, 1, 5, 5, 4, 3)) {
		t.Error(p, a, b, c, d)
	}
}

// R3: a nil list counts as an empty one.
func TestNilList(t *testing.T) {
	for _, s := range edges() {
		for _, p := range []api.Pool{{Size: s.size, Base: s.base, Many: s.many}, {Size: s.size, Base: s.base, Many: s.many, Free: []int{}}} {
			if _, _, e := pool.Take(p); e != api.ErrNoMem || !pool.Right(p) {
				t.Errorf("%v: %v", p, e)
			}
			if l, e := pool.Held(p); e != api.OK || !slices.Equal(l, s.firsts()) {
				t.Errorf("%v: %v, %v", p, l, e)
			}
			for _, at := range s.firsts() {
				if n, e := pool.Give(p, at); e != api.OK || told(n) != told(of(s.size, s.base, s.many, at)) {
					t.Errorf("%v, %d: %v, %v", p, at, n, e)
				}
			}
		}
	}
}

// P1: every call ends, and none panics, at arguments of all kinds.
func TestEveryCallEnds(t *testing.T) {
	numbers := []int{least, -1, 0, 1, 2, 8, 9, 16, 17, 160, 161, most}
	frees := append(rows([]int{least, 0, 1, 2, 161, most}, 2), make([]int, 100000), upTo(100000))
	for _, size := range numbers {
		for _, base := range numbers {
			for _, many := range numbers {
				s := shape{size, base, 0}
				may := s.may() && many >= 0 && many <= 16 && shape{size, base, many}.may()
				for _, free := range frees {
					p := api.Pool{Size: size, Base: base, Many: many, Free: free}
					if is := may && (shape{size, base, many}).is(free); pool.Right(p) != is {
						t.Fatalf("%d, %d, %d, %d in Free: may it be? %v", size, base, many, len(free), is)
					} else if _, e := pool.Held(p); (e == api.OK) != is {
						t.Fatalf("%d, %d, %d, %d in Free: %v", size, base, many, len(free), e)
					} else if _, _, e := pool.Take(p); is && (e == api.OK) != (len(free) > 0) || !is && e != api.ErrArg {
						t.Fatalf("%d, %d, %d, %d in Free: %v", size, base, many, len(free), e)
					}
					for _, at := range numbers {
						if n, e := pool.Give(p, at); (e == api.OK) != pool.Right(n) {
							t.Fatalf("%v, %d: %v, %v", p, at, n, e)
						}
					}
				}
			}
		}
	}
}
