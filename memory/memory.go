// Package memory is layer 1: words that know who has them (see shared/doc/01-memory.md).
package memory

import "respite/api"

// New makes a memory of n words, all 0, that nobody has had yet.
func New(n int) (api.Memory, api.Errno) {
	if n < 1 || n > api.MaxWords {
		return api.Memory{}, api.ErrSize
	}
	return api.Memory{Words: make([]int, n), Tags: make([]int, n)}, api.OK
}

// Right tells whether the memory may be.
func Right(m api.Memory) bool {
	_, right := tally(m)
	return right
}

// Load is the word at a place.
func Load(m api.Memory, at int) (int, api.Errno) {
	if e := usable(m, at); e != api.OK {
		return 0, e
	}
	return m.Words[at], api.OK
}

// Store is the memory with v at a place.
func Store(m api.Memory, at, v int) (api.Memory, api.Errno) {
	if e := usable(m, at); e != api.OK {
		return api.Memory{}, e
	}
	stored := copied(m)
	stored.Words[at] = v
	return stored, api.OK
}

// Mark is the memory in which n words from a place on are had (TLive), or given back (TFreed).
func Mark(m api.Memory, at, n, tag int) (api.Memory, api.Errno) {
	if !Right(m) || tag != api.TLive && tag != api.TFreed {
		return api.Memory{}, api.ErrArg
	}
	if !within(m, at, n) {
		return api.Memory{}, api.ErrRange
	}
	refusal := whyNotUsed
	if tag == api.TLive {
		refusal = whyNotTaken
	}
	marked := copied(m)
	for i := at; i < at+n; i++ {
		if e := refusal(m.Tags[i]); e != api.OK {
			return api.Memory{}, e
		}
		marked.Tags[i] = tag
	}
	return marked, api.OK
}

// Count is how many words have each tag, by the tag's number.
func Count(m api.Memory) ([3]int, api.Errno) {
	many, right := tally(m)
	if !right {
		return [3]int{}, api.ErrArg
	}
	return many, api.OK
}

// tally counts the tags, and tells whether the memory may be: one look at each word settles both.
func tally(m api.Memory) ([3]int, bool) {
	var many [3]int
	if len(m.Words) < 1 || len(m.Words) > api.MaxWords || len(m.Tags) != len(m.Words) {
		return many, false
	}
	for i, tag := range m.Tags {
		if tag < api.TNever || tag > api.TFreed {
			return many, false
		}
		if tag == api.TNever && m.Words[i] != 0 {
			return many, false
		}
		many[tag]++
	}
	return many, true
}

// usable is why the word at a place can't be loaded, stored to, or OK.
func usable(m api.Memory, at int) api.Errno {
	if !Right(m) {
		return api.ErrArg
	}
	if !within(m, at, 1) {
		return api.ErrRange
	}
	return whyNotUsed(m.Tags[at])
}

// within tells whether there are n places, at least one, from at on. It adds nothing up: a sum could go round.
func within(m api.Memory, at, n int) bool {
	return n >= 1 && at >= 0 && n <= len(m.Words)-at
}

// whyNotUsed is why a word of that tag can't be used or given back: only a live one can.
func whyNotUsed(tag int) api.Errno {
	told := [3]api.Errno{api.TNever: api.ErrNever, api.TLive: api.OK, api.TFreed: api.ErrFreed}
	return told[tag]
}

// whyNotTaken is why a word of that tag can't be had anew: somebody may have it.
func whyNotTaken(tag int) api.Errno {
	told := [3]api.Errno{api.TNever: api.OK, api.TLive: api.ErrLive, api.TFreed: api.OK}
	return told[tag]
}

// copied is the memory in lists of its own, so that what was handed in stays.
func copied(m api.Memory) api.Memory {
	c := api.Memory{Words: make([]int, len(m.Words)), Tags: make([]int, len(m.Tags))}
	copy(c.Words, m.Words)
	copy(c.Tags, m.Tags)
	return c
}
