package memory_test

import (
	"math"
	"slices"
	"strconv"
	"testing"

	"respite/api"
	"respite/memory"
)

// made is a memory of tags and words, each in a list of its own.
func made(tags, words []int) api.Memory {
	return api.Memory{Words: slices.Clone(words), Tags: slices.Clone(tags)}
}

// wide is a memory of n words, all of one tag; they count up from 100, where the tag lets them.
func wide(n, tag int) api.Memory {
	m := api.Memory{Words: make([]int, n), Tags: make([]int, n)}
	for i := range n {
		m.Tags[i] = tag
		if tag != api.TNever {
			m.Words[i] = 100 + i
		}
	}
	return m
}

// mixed has each tag, the first and the last place live.
func mixed() api.Memory {
	return made([]int{1, 0, 2, 1, 1, 2, 0, 1}, []int{10, 0, 12, 13, 14, 0, 0, 17})
}

func same(a, b api.Memory) bool {
	return slices.Equal(a.Words, b.Words) && slices.Equal(a.Tags, b.Tags)
}

func empty(m api.Memory) bool { return len(m.Words) == 0 && len(m.Tags) == 0 }

// wrong are memories that may not be, by what is wrong with them.
func wrong() map[string]api.Memory {
	return map[string]api.Memory{
		"nil":                    {},
		"empty":                  {Words: []int{}, Tags: []int{}},
		"no words":               {Tags: []int{1}},
		"no tags":                {Words: []int{0}},
		"a tag too few":          made([]int{1, 1}, []int{1, 2, 3}),
		"a tag too many":         made([]int{1, 1, 1}, []int{1, 2}),
		"161 words":              wide(161, api.TLive),
		"161 words, never had":   wide(161, api.TNever),
		"161 words, 160 tags":    {Words: make([]int, 161), Tags: make([]int, 160)},
		"160 words, 161 tags":    {Words: make([]int, 160), Tags: make([]int, 161)},
		"a tag of -1, first":     made([]int{-1, 1, 1}, []int{0, 2, 3}),
		"a tag of 3, last":       made([]int{1, 1, 3}, []int{1, 2, 0}),
		"a tag of 3, in between": made([]int{1, 3, 1}, []int{1, 2, 3}),
		"the least tag":          made([]int{math.MinInt}, []int{0}),
		"the greatest tag":       made([]int{math.MaxInt}, []int{0}),
		"a word never had, 1":    made([]int{0, 1}, []int{1, 1}),
		"the last never had, -1": made([]int{1, 2, 0}, []int{1, 2, -1}),
	}
}

// P1.1: New has sizes 1 to 160, and no other ones.
func TestNew(t *testing.T) {
	for _, n := range []int{1, 2, 3, 80, 159, 160} {
		m, e := memory.New(n)
		if e != api.OK || !slices.Equal(m.Words, make([]int, n)) || !slices.Equal(m.Tags, make([]int, n)) {
			t.Errorf("New(%d) = %v, %v", n, m, e)
		}
		if !memory.Right(m) {
			t.Errorf("New(%d) may not be", n)
		}
	}
	for _, n := range []int{0, -1, 161, 162, -160, math.MinInt, math.MaxInt} {
		if m, e := memory.New(n); e != api.ErrSize || !empty(m) {
			t.Errorf("New(%d) = %v, %v, want ErrSize alone", n, m, e)
		}
	}
}

// P1.1, R1: each new memory has lists of its own.
func TestNewKeepsNothing(t *testing.T) {
	a, _ := memory.New(2)
	a.Words[0], a.Tags[0] = 7, 1
	if b, _ := memory.New(2); !same(b, made([]int{0, 0}, []int{0, 0})) {
		t.Error(b)
	}
}

// P1.1: Right holds for what may be.
func TestRight(t *testing.T) {
	for name, m := range map[string]api.Memory{
		"one never had":    made([]int{0}, []int{0}),
		"one live, 0":      made([]int{1}, []int{0}),
		"one live":         made([]int{1}, []int{math.MinInt}),
		"one freed, 0":     made([]int{2}, []int{0}),
		"one freed":        made([]int{2}, []int{math.MaxInt}),
		"each tag":         made([]int{2, 0, 1}, []int{5, 0, -5}),
		"mixed":            mixed(),
		"160 never had":    wide(160, api.TNever),
		"160 live":         wide(160, api.TLive),
		"160 freed":        wide(160, api.TFreed),
		"159":              wide(159, api.TLive),
		"longer behind it": {Words: make([]int, 2, 300), Tags: make([]int, 2, 200)},
	} {
		if !memory.Right(m) {
			t.Errorf("%s: may be, but is not right", name)
		}
	}
	for name, m := range wrong() {
		if memory.Right(m) {
			t.Errorf("%s: may not be, but is right", name)
		}
	}
}

// P1.1: ErrArg of a memory that may not be comes ahead of all other errors, with nothing beside it.
func TestWrongMemories(t *testing.T) {
	for name, m := range wrong() {
		was := made(m.Tags, m.Words)
		for _, at := range []int{0, 1, -1, 161, math.MaxInt, math.MinInt} {
			if v, e := memory.Load(m, at); e != api.ErrArg || v != 0 {
				t.Errorf("%s: Load at %d = %d, %v", name, at, v, e)
			}
			if a, e := memory.Store(m, at, 0); e != api.ErrArg || !empty(a) {
				t.Errorf("%s: Store at %d = %v, %v", name, at, a, e)
			}
			for _, tag := range []int{-1, 0, 1, 2, 3} {
				if a, e := memory.Mark(m, at, 1, tag); e != api.ErrArg || !empty(a) {
					t.Errorf("%s: Mark at %d to %d = %v, %v", name, at, tag, a, e)
				}
			}
		}
		if n, e := memory.Count(m); e != api.ErrArg || n != [3]int{} {
			t.Errorf("%s: Count = %v, %v", name, n, e)
		}
		if !same(m, was) {
			t.Errorf("%s: was changed", name)
		}
	}
}

// P1.2: Load and Store tell of each place what its tag says, and ErrRange beside the places.
func TestLoadAndStoreByTags(t *testing.T) {
	m := mixed()
	for at, tag := range m.Tags {
		want := [3]api.Errno{api.ErrNever, api.OK, api.ErrFreed}[tag]
		word := 0
		if want == api.OK {
			word = m.Words[at]
		}
		if v, e := memory.Load(m, at); v != word || e != want {
			t.Errorf("Load at %d = %d, %v, want %d, %v", at, v, e, word, want)
		}
		a, e := memory.Store(m, at, -99)
		if e != want || e != api.OK && !empty(a) {
			t.Errorf("Store at %d = %v, %v, want %v", at, a, e, want)
		}
	}
	for _, at := range []int{-1, 8, 9, 160, math.MaxInt, math.MinInt} {
		if v, e := memory.Load(m, at); e != api.ErrRange || v != 0 {
			t.Errorf("Load at %d = %d, %v", at, v, e)
		}
		if a, e := memory.Store(m, at, 5); e != api.ErrRange || !empty(a) {
			t.Errorf("Store at %d = %v, %v", at, a, e)
		}
	}
}

// P1.2: the first and the last place, and those beside them, of the least and the greatest memory.
func TestPlacesAtTheEnds(t *testing.T) {
	for _, n := range []int{1, 160} {
		m := wide(n, api.TLive)
		for _, at := range []int{0, n - 1} {
			if v, e := memory.Load(m, at); v != 100+at || e != api.OK {
				t.Errorf("of %d: Load at %d = %d, %v", n, at, v, e)
			}
			if a, e := memory.Store(m, at, 1); e != api.OK || a.Words[at] != 1 {
				t.Errorf("of %d: Store at %d = %v, %v", n, at, a, e)
			}
		}
		for _, at := range []int{-1, n} {
			if _, e := memory.Load(m, at); e != api.ErrRange {
				t.Errorf("of %d: Load at %d: %v", n, at, e)
			}
			if _, e := memory.Store(m, at, 1); e != api.ErrRange {
				t.Errorf("of %d: Store at %d: %v", n, at, e)
			}
		}
	}
}

// P1.2, P1.4: a store, of any number, changes one word, no other one, and no tag.
func TestStoreChangesOneWord(t *testing.T) {
	m := mixed()
	for _, at := range []int{0, 3, 4, 7} {
		for _, v := range []int{0, 1, -1, m.Words[at], math.MaxInt, math.MinInt} {
			want := mixed()
			want.Words[at] = v
			a, e := memory.Store(m, at, v)
			if e != api.OK || !same(a, want) || !memory.Right(a) {
				t.Errorf("Store %d at %d = %v, %v", v, at, a, e)
			}
			if got, e := memory.Load(a, at); got != v || e != api.OK {
				t.Errorf("Store %d at %d, Load = %d, %v", v, at, got, e)
			}
		}
	}
	if !same(m, mixed()) {
		t.Error("what was handed in was changed")
	}
}

// P1.3: a mark changes the tags of its n places, and of no other one, and (P1.4) no word.
func TestMark(t *testing.T) {
	for _, c := range []struct{ at, n, tag int }{
		{1, 2, api.TLive}, {2, 1, api.TLive}, {1, 1, api.TLive}, {5, 2, api.TLive}, {6, 1, api.TLive},
		{0, 1, api.TFreed}, {3, 2, api.TFreed}, {4, 1, api.TFreed}, {7, 1, api.TFreed},
	} {
		m, want := mixed(), mixed()
		for i := range c.n {
			want.Tags[c.at+i] = c.tag
		}
		a, e := memory.Mark(m, c.at, c.n, c.tag)
		if e != api.OK || !same(a, want) || !memory.Right(a) {
			t.Errorf("Mark %v = %v, %v, want %v", c, a, e, want)
		}
		if !same(m, mixed()) {
			t.Errorf("Mark %v changed what was handed in", c)
		}
	}
}

// P1.3: all places at once, of the least and the greatest memory.
func TestMarkAll(t *testing.T) {
	for _, n := range []int{1, 159, 160} {
		m, _ := memory.New(n)
		a, e := memory.Mark(m, 0, n, api.TLive)
		if c, _ := memory.Count(a); e != api.OK || c != [3]int{0, n, 0} {
			t.Errorf("of %d: %v, %v", n, c, e)
		}
		b, e := memory.Mark(a, 0, n, api.TFreed)
		if c, _ := memory.Count(b); e != api.OK || c != [3]int{0, 0, n} {
			t.Errorf("of %d: %v, %v", n, c, e)
		}
		c, e := memory.Mark(b, n-1, 1, api.TLive)
		if k, _ := memory.Count(c); e != api.OK || k != [3]int{0, 1, n - 1} || c.Tags[n-1] != api.TLive {
			t.Errorf("of %d: %v, %v", n, k, e)
		}
	}
}

// P1.3: a tag to which nothing is marked is ErrArg, whatever else is wrong.
func TestMarkOfNoSuchTag(t *testing.T) {
	for _, tag := range []int{-1, 0, 3, 4, math.MaxInt, math.MinInt} {
		for _, c := range []struct{ at, n int }{{0, 1}, {1, 1}, {2, 1}, {-1, 1}, {0, 0}, {8, 1}, {0, 9}} {
			if a, e := memory.Mark(mixed(), c.at, c.n, tag); e != api.ErrArg || !empty(a) {
				t.Errorf("Mark %v to %d = %v, %v", c, tag, a, e)
			}
		}
	}
}

// P1.3: n below 1, and ranges that are not there, are ErrRange, whatever tags they have in them.
func TestMarkOutOfRange(t *testing.T) {
	most, least := math.MaxInt, math.MinInt
	for _, c := range []struct{ at, n int }{
		{0, 0}, {0, -1}, {3, 0}, {7, -1}, {8, 0}, {0, least}, {7, least}, // n below 1
		{-1, 1}, {-1, 2}, {-1, 9}, {-3, 4}, {least, 1}, {least, most}, // one ahead of the first
		{8, 1}, {9, 1}, {most, 1}, {most, most}, // none there at all
		{0, 9}, {7, 2}, {5, 4}, {1, 8}, {0, most}, {1, most}, {7, most}, // one beyond the last
		{least, least}, {most, least}, {-1, 0}, {-1, -1}, {1, least},
	} {
		for _, tag := range []int{api.TLive, api.TFreed} {
			if a, e := memory.Mark(mixed(), c.at, c.n, tag); e != api.ErrRange || !empty(a) {
				t.Errorf("Mark %v to %d = %v, %v", c, tag, a, e)
			}
		}
	}
	ends := wide(160, api.TFreed)
	if _, e := memory.Mark(ends, 158, 2, api.TLive); e != api.OK {
		t.Error("up to the last place:", e)
	}
	if _, e := memory.Mark(ends, 158, 3, api.TLive); e != api.ErrRange {
		t.Error("beyond the last place:", e)
	}
}

// P1.3: any live word in the range keeps it from being had.
func TestMarkLiveOfLive(t *testing.T) {
	for _, c := range []struct{ at, n int }{{0, 1}, {0, 2}, {0, 8}, {1, 3}, {2, 2}, {2, 3}, {4, 3}, {5, 3}, {7, 1}} {
		if a, e := memory.Mark(mixed(), c.at, c.n, api.TLive); e != api.ErrLive || !empty(a) {
			t.Errorf("Mark %v = %v, %v", c, a, e)
		}
	}
}

// P1.3: the first word of the range that is not live says why it can't be freed.
func TestMarkFreedOfNotLive(t *testing.T) {
	for _, c := range []struct {
		at, n int
		want  api.Errno
	}{
		{1, 1, api.ErrNever}, {2, 1, api.ErrFreed}, {1, 2, api.ErrNever}, {0, 8, api.ErrNever}, {0, 2, api.ErrNever},
		{2, 2, api.ErrFreed}, {2, 6, api.ErrFreed}, {3, 3, api.ErrFreed}, {4, 4, api.ErrFreed}, {5, 2, api.ErrFreed},
		{6, 2, api.ErrNever}, {6, 1, api.ErrNever}, {5, 1, api.ErrFreed},
	} {
		if a, e := memory.Mark(mixed(), c.at, c.n, api.TFreed); e != c.want || !empty(a) {
			t.Errorf("Mark %v = %v, %v, want %v", c, a, e, c.want)
		}
	}
}

// P1.3: Count tells how many words have each tag.
func TestCount(t *testing.T) {
	for _, c := range []struct {
		m    api.Memory
		want [3]int
	}{
		{mixed(), [3]int{2, 4, 2}},
		{made([]int{0}, []int{0}), [3]int{1, 0, 0}},
		{made([]int{1}, []int{0}), [3]int{0, 1, 0}},
		{made([]int{2}, []int{0}), [3]int{0, 0, 1}},
		{made([]int{2, 2, 0, 2, 1}, []int{0, 1, 0, 3, 0}), [3]int{1, 1, 3}},
		{wide(160, api.TNever), [3]int{160, 0, 0}},
		{wide(160, api.TFreed), [3]int{0, 0, 160}},
	} {
		was := made(c.m.Tags, c.m.Words)
		if n, e := memory.Count(c.m); n != c.want || e != api.OK || !same(c.m, was) {
			t.Errorf("Count(%v) = %v, %v, want %v", was, n, e, c.want)
		}
	}
}

// P1.4: what is live can't be had again till it is freed; what is freed can't be loaded, and has its word still when it is had anew.
func TestLifeOfAWord(t *testing.T) {
	m, _ := memory.New(2)
	had, e := memory.Mark(m, 1, 1, api.TLive)
	if e != api.OK {
		t.Fatal(e)
	}
	if _, e := memory.Mark(had, 1, 1, api.TLive); e != api.ErrLive {
		t.Error("had again:", e)
	}
	stored, _ := memory.Store(had, 1, 5)
	if v, e := memory.Load(stored, 1); v != 5 || e != api.OK {
		t.Error(v, e)
	}
	if _, e := memory.Load(stored, 0); e != api.ErrNever {
		t.Error("never had:", e)
	}
	freed, e := memory.Mark(stored, 1, 1, api.TFreed)
	if e != api.OK || freed.Words[1] != 5 {
		t.Error(freed, e)
	}
	if v, e := memory.Load(freed, 1); v != 0 || e != api.ErrFreed {
		t.Error("freed:", v, e)
	}
	if _, e := memory.Store(freed, 1, 6); e != api.ErrFreed {
		t.Error("freed:", e)
	}
	if _, e := memory.Mark(freed, 1, 1, api.TFreed); e != api.ErrFreed {
		t.Error("freed twice:", e)
	}
	again, e := memory.Mark(freed, 1, 1, api.TLive)
	if v, f := memory.Load(again, 1); e != api.OK || f != api.OK || v != 5 {
		t.Error(v, e, f)
	}
}

// R4, and more: an answer is new memory, so that a change of it shows nowhere else.
func TestAnswersShareNothing(t *testing.T) {
	m := mixed()
	stored, _ := memory.Store(m, 0, 10)
	freed, _ := memory.Mark(m, 0, 1, api.TFreed)
	had, _ := memory.Mark(m, 1, 1, api.TLive)
	for _, a := range []api.Memory{stored, freed, had} {
		if len(a.Words) != 8 || len(a.Tags) != 8 {
			t.Fatal(a)
		}
		for i := range a.Words {
			a.Words[i], a.Tags[i] = -1, -1
		}
		if !same(m, mixed()) {
			t.Fatal("shared with what was handed in:", m)
		}
	}
	room := api.Memory{Words: make([]int, 2, 9), Tags: []int{1, 1, 7, 7}[:2]}
	if a, e := memory.Store(room, 1, 3); e != api.OK || !same(a, made([]int{1, 1}, []int{0, 3})) {
		t.Error(a, e)
	}
	if room.Words[1] != 0 || room.Tags[:4][2] != 7 {
		t.Error("changed:", room)
	}
}

// marked is P1.3 read word for word, one look at a time: the tags then, or the error.
func marked(tags []int, at, n, tag int) ([]int, api.Errno) {
	if tag != 1 && tag != 2 {
		return nil, api.ErrArg
	}
	if n < 1 {
		return nil, api.ErrRange
	}
	for i := range n {
		if at+i < 0 || at+i >= len(tags) {
			return nil, api.ErrRange
		}
	}
	part := tags[at : at+n]
	if tag == 1 && slices.Contains(part, 1) {
		return nil, api.ErrLive
	}
	for _, x := range part {
		if tag == 2 && x == 0 {
			return nil, api.ErrNever
		}
		if tag == 2 && x == 2 {
			return nil, api.ErrFreed
		}
	}
	return slices.Concat(tags[:at], slices.Repeat([]int{tag}, n), tags[at+n:]), api.OK
}

// everyTags are all rows of n tags.
func everyTags(n int) [][]int {
	if n == 0 {
		return [][]int{{}}
	}
	var all [][]int
	for _, row := range everyTags(n - 1) {
		for tag := range 3 {
			all = append(all, append(slices.Clone(row), tag))
		}
	}
	return all
}

// P1.3, P1.4: every mark of every memory of up to four words, as the words of the promise say.
func TestEveryMarkOfSmallMemories(t *testing.T) {
	for many := 1; many <= 4; many++ {
		for _, tags := range everyTags(many) {
			m := api.Memory{Words: make([]int, many), Tags: tags}
			for i, tag := range tags {
				m.Words[i] = tag * (i + 1)
			}
			eachMark(t, m)
		}
	}
}

func eachMark(t *testing.T, m api.Memory) {
	t.Helper()
	was := made(m.Tags, m.Words)
	for at := -2; at <= len(m.Tags)+1; at++ {
		for n := -1; n <= len(m.Tags)+3; n++ {
			for tag := -1; tag <= 3; tag++ {
				want, why := marked(was.Tags, at, n, tag)
				a, e := memory.Mark(m, at, n, tag)
				if e != why || !slices.Equal(a.Tags, want) || e == api.OK && !slices.Equal(a.Words, was.Words) || e != api.OK && !empty(a) {
					t.Fatalf("%v: Mark at %d of %d to %d = %v, %v, want tags %v, %v", was, at, n, tag, a, e, want, why)
				}
				if !same(m, was) {
					t.Fatalf("%v: was changed to %v by Mark at %d of %d to %d", was, m, at, n, tag)
				}
			}
		}
	}
}

// P1: every call ends, and none panics, at arguments of all kinds.
func TestEveryCallEnds(t *testing.T) {
	numbers := []int{math.MinInt, math.MinInt + 1, -161, -1, 0, 1, 2, 3, 7, 8, 159, 160, 161, math.MaxInt - 1, math.MaxInt}
	memories := wrong()
	memories["mixed"] = mixed()
	for i, tag := range []int{api.TNever, api.TLive, api.TFreed} {
		memories["160 of tag "+strconv.Itoa(i)] = wide(160, tag)
	}
	for name, m := range memories {
		was := made(m.Tags, m.Words)
		for _, a := range numbers {
			memory.New(a)
			memory.Load(m, a)
			for _, b := range numbers {
				memory.Store(m, a, b)
				for _, c := range numbers {
					memory.Mark(m, a, b, c)
				}
			}
		}
		if !same(m, was) {
			t.Errorf("%s: was changed", name)
		}
	}
}
