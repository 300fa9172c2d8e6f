package grace_test

import (
	"math"
	"math/rand"
	"slices"
	"testing"

	"respite/api"
	"respite/grace"
)

const (
	most  = math.MaxInt
	least = math.MinInt
)

// The kinds of events that count, as the chapter numbers them.
const (
	lock   = 2
	unlock = 3
	sync   = 4
	synced = 5
)

var counting = []int{lock, unlock, sync, synced}

// others are kinds that count for nothing, most of which would count if only some of their bits were looked at.
var others = []int{
	least, least + 2, least + 5, -1 << 32, -1<<32 + 4, -254, -5, -4, -3, -2, -1, 0, 1, 6, 7, 8, 10, 11, 12, 13, 18, 19, 20, 21, 66, 130,
	258, 259, 260, 261, 1<<16 + 2, 1<<32 + 2, 1<<32 + 3, 1<<32 + 4, 1<<32 + 5, 1<<62 + 2, most - 3, most - 2, most,
}

// far are threads' numbers, that may be any.
var far = []int{least, least + 1, -1 << 32, -7, -1, 0, 1, 2, 7, 8, 1 << 32, 1<<32 + 1, most - 1, most}

// event is one of a thread, with words that do not matter.
func event(kind, thread int) api.Event {
	return api.Event{Kind: kind, Thread: thread, Words: [4]int{kind * 3, thread, -1, 5}}
}

// row is events from kinds and threads that take turns.
func row(l ...int) []api.Event {
	var events []api.Event
	for i := 0; i < len(l); i += 2 {
		events = append(events, event(l[i], l[i+1]))
	}
	return events
}

// of is a stretch of a thread.
func of(thread, from, to int) api.Section { return api.Section{Thread: thread, From: from, To: to} }

// deep is how deep a thread is in behind all of the events.
func deep(l []api.Event, thread int) int {
	n := 0
	for _, e := range l {
		if e.Thread != thread {
			continue
		}
		if e.Kind == lock {
			n++
		}
		if e.Kind == unlock && n > 0 {
			n--
		}
	}
	return n
}

// waits tells whether a sync of a thread is open behind all of the events: whether the last one of these that is of a sync of it begins one.
func waits(l []api.Event, thread int) bool {
	for _, e := range slices.Backward(l) {
		if e.Thread == thread && (e.Kind == sync || e.Kind == synced) {
			return e.Kind == sync
		}
	}
	return false
}

// told is the stretches of events, place by place, by who is in one behind the first events of them.
func told(l []api.Event, in func(l []api.Event, thread int) bool) []api.Section {
	var all []api.Section
	for place, e := range l {
		if in(l[:place], e.Thread) || !in(l[:place+1], e.Thread) {
			continue
		}
		s := of(e.Thread, place, -1)
		for to := place + 1; to < len(l) && s.To == -1; to++ {
			if !in(l[:to+1], e.Thread) {
				s.To = to
			}
		}
		all = append(all, s)
	}
	return all
}

// sections and syncs are told by the chapter's words, and nothing is kept on the way.
func sections(l []api.Event) []api.Section {
	return told(l, func(l []api.Event, thread int) bool { return deep(l, thread) > 0 })
}

func syncs(l []api.Event) []api.Section { return told(l, waits) }

// spans is the chapter's word of two stretches.
func spans(a, s api.Section) bool {
	if s.To < 0 {
		return false
	}
	if a.From >= s.From {
		return false
	}
	if a.To < 0 {
		return true
	}
	return a.To > s.To
}

// check is the number of the first of all sections that spans one of all syncs.
func check(l []api.Event) (int, bool) {
	for i, a := range sections(l) {
		for _, s := range syncs(l) {
			if spans(a, s) {
				return i, false
			}
		}
	}
	return 0, true
}

// held holds what all calls tell of the events against that.
func held(t *testing.T, l []api.Event) {
	t.Helper()
	if got, want := grace.Sections(l), sections(l); !slices.Equal(got, want) {
		t.Fatalf("Sections %v: %v, want %v", l, got, want)
	}
	if got, want := grace.Syncs(l), syncs(l); !slices.Equal(got, want) {
		t.Fatalf("Syncs %v: %v, want %v", l, got, want)
	}
	n, is := grace.Check(l)
	if number, right := check(l); n != number || is != right {
		t.Fatalf("Check %v: %d, %v, want %d, %v", l, n, is, number, right)
	}
}

// thrown is so many events of the threads; those that count for nothing are one in so many.
func thrown(r *rand.Rand, many, rare int, threads []int) []api.Event {
	l := make([]api.Event, many)
	for i := range l {
		kind := counting[r.Intn(4)]
		if r.Intn(rare) == 0 {
			kind = others[r.Intn(len(others))]
		}
		l[i] = event(kind, threads[r.Intn(len(threads))])
	}
	return l
}

// waited is thrown events that are right: what would have a section span a sync is left out.
func waited(r *rand.Rand, many int, threads []int) []api.Event {
	var l []api.Event
	for _, e := range thrown(r, many, 10, threads) {
		if _, right := check(append(slices.Clone(l), e)); right {
			l = append(l, e)
		}
	}
	return l
}

// The chapter's examples, and more by hand.
func TestByHand(t *testing.T) {
	const in, out = lock, unlock
	for i, x := range []struct {
		l        []api.Event
		sections []api.Section
		syncs    []api.Section
		n        int
		is       bool
	}{
		{row(in, 0, sync, 1, out, 0, synced, 1), []api.Section{of(0, 0, 2)}, []api.Section{of(1, 1, 3)}, 0, true},
		{row(in, 0, sync, 1, synced, 1, out, 0), []api.Section{of(0, 0, 3)}, []api.Section{of(1, 1, 2)}, 0, false},
		{nil, nil, nil, 0, true},
		// No end of the section, or of the sync, or of both.
		{row(in, 0, sync, 1, synced, 1), []api.Section{of(0, 0, -1)}, []api.Section{of(1, 1, 2)}, 0, false},
		{row(in, 0, sync, 1, out, 0), []api.Section{of(0, 0, 2)}, []api.Section{of(1, 1, -1)}, 0, true},
		{row(in, 0, sync, 1), []api.Section{of(0, 0, -1)}, []api.Section{of(1, 1, -1)}, 0, true},
		// Who came in behind the beginning needs not be waited for.
		{row(sync, 1, in, 0, synced, 1, out, 0), []api.Section{of(0, 1, 3)}, []api.Section{of(1, 0, 2)}, 0, true},
		{row(sync, 1, in, 0, synced, 1), []api.Section{of(0, 1, -1)}, []api.Section{of(1, 0, 2)}, 0, true},
		// Out ahead of the beginning, or in behind the end.
		{row(in, 0, out, 0, sync, 1, synced, 1, in, 0), []api.Section{of(0, 0, 1), of(0, 4, -1)}, []api.Section{of(1, 2, 3)}, 0, true},
		// Out once of twice is in still.
		{row(in, 0, in, 0, sync, 1, out, 0, synced, 1, out, 0), []api.Section{of(0, 0, 5)}, []api.Section{of(1, 2, 4)}, 0, false},
		{row(in, 0, in, 0, sync, 1, out, 0, out, 0, synced, 1), []api.Section{of(0, 0, 4)}, []api.Section{of(1, 2, 5)}, 0, true},
		// Going out outside counts for nothing, nor does it take anything off the next coming in.
		{row(out, 0, out, 0, in, 0, in, 0, out, 0), []api.Section{of(0, 2, -1)}, nil, 0, true},
		{row(out, 0, in, 0, out, 0, out, 0, in, 0, out, 0), []api.Section{of(0, 1, 2), of(0, 4, 5)}, nil, 0, true},
		{row(out, 0), nil, nil, 0, true},
		// A sync that is open is not begun once more, and one that is not open does not end.
		{row(sync, 1, sync, 1, synced, 1, synced, 1), nil, []api.Section{of(1, 0, 2)}, 0, true},
		{row(synced, 1, sync, 1, sync, 1), nil, []api.Section{of(1, 1, -1)}, 0, true},
		{row(synced, 1, synced, 1, sync, 1, synced, 1, sync, 1), nil, []api.Section{of(1, 2, 3), of(1, 4, -1)}, 0, true},
		{row(sync, 1, in, 0, sync, 1, synced, 1), []api.Section{of(0, 1, -1)}, []api.Section{of(1, 0, 3)}, 0, true},
		{row(synced, 1), nil, nil, 0, true},
		// Of each thread for itself: nobody else ends what a thread has open, or goes deeper in it.
		{row(in, 0, out, 1, out, 0), []api.Section{of(0, 0, 2)}, nil, 0, true},
		{row(sync, 0, synced, 1, sync, 1, synced, 0), nil, []api.Section{of(0, 0, 3), of(1, 2, -1)}, 0, true},
		{row(in, 0, in, 1, in, 2, out, 1, out, 0, out, 2), []api.Section{of(0, 0, 4), of(1, 1, 3), of(2, 2, 5)}, nil, 0, true},
		// A thread that waits while it is in itself is in at the end: it spans its own sync.
		{row(in, 0, sync, 0, synced, 0, out, 0), []api.Section{of(0, 0, 3)}, []api.Section{of(0, 1, 2)}, 0, false},
		{row(sync, 0, in, 0, out, 0, synced, 0), []api.Section{of(0, 1, 2)}, []api.Section{of(0, 0, 3)}, 0, true},
		// The first section that spans one, not the first sync that is spanned, or the section that is closed first.
		{row(sync, 3, in, 0, in, 1, sync, 4, synced, 4, out, 1, in, 2, synced, 3), []api.Section{of(0, 1, -1), of(1, 2, 5), of(2, 6, -1)}, []api.Section{of(3, 0, 7), of(4, 3, 4)}, 0, false},
		{row(in, 0, in, 1, sync, 3, out, 0, synced, 3, out, 1), []api.Section{of(0, 0, 3), of(1, 1, 5)}, []api.Section{of(3, 2, 4)}, 1, false},
		{row(in, 0, out, 0, in, 0, out, 0, in, 1, sync, 2, synced, 2), []api.Section{of(0, 0, 1), of(0, 2, 3), of(1, 4, -1)}, []api.Section{of(2, 5, 6)}, 2, false},
		// Of two syncs the one that began later ends sooner, or the other way about; one is spanned.
		{row(in, 0, sync, 1, sync, 2, synced, 2, out, 0, synced, 1), []api.Section{of(0, 0, 4)}, []api.Section{of(1, 1, 5), of(2, 2, 3)}, 0, false},
		{row(in, 0, sync, 1, sync, 2, synced, 1, out, 0, synced, 2), []api.Section{of(0, 0, 4)}, []api.Section{of(1, 1, 3), of(2, 2, 5)}, 0, false},
		{row(in, 0, sync, 1, in, 3, sync, 2, synced, 1, out, 3, out, 0), []api.Section{of(0, 0, 6), of(3, 2, 5)}, []api.Section{of(1, 1, 4), of(2, 3, -1)}, 0, false},
		{row(in, 0, sync, 1, out, 0, in, 3, sync, 2, synced, 2, synced, 1), []api.Section{of(0, 0, 2), of(3, 3, -1)}, []api.Section{of(1, 1, 6), of(2, 4, 5)}, 1, false},
	} {
		if s := grace.Sections(x.l); !slices.Equal(s, x.sections) {
			t.Errorf("%d: sections %v, want %v", i, s, x.sections)
		}
		if s := grace.Syncs(x.l); !slices.Equal(s, x.syncs) {
			t.Errorf("%d: syncs %v, want %v", i, s, x.syncs)
		}
		if n, is := grace.Check(x.l); n != x.n || is != x.is {
			t.Errorf("%d: %d, %v, want %d, %v", i, n, is, x.n, x.is)
		}
	}
}

// P15.1: Spans by hand, at each edge.
func TestSpansByHand(t *testing.T) {
	for i, x := range []struct {
		aFrom, aTo, sFrom, sTo int
		want                   bool
	}{
		{0, 3, 1, 2, true},
		{0, 2, 1, 2, false}, // it ends just there
		{1, 3, 1, 2, false}, // it begins just there
		{2, 5, 1, 3, false},
		{0, 1, 2, 3, false},
		{0, -1, 1, 2, true},
		{0, -1, 1, -1, false},
		{0, 3, 1, -1, false},
		{0, -2, 1, 2, true},
		{0, least, 1, 2, true},
		{0, 3, 1, -5, false},
		{0, -1, 1, least, false},
		{0, -5, 1, -7, false},
		{0, 0, 1, 0, false},
		{0, 1, 1, 0, true},
		{0, -1, 1, 0, true},
		{-5, 3, -4, 2, true},
		{-4, 3, -5, 2, false},
		{least, most, most, most - 1, true},
		{least, most, most, most, false},
		{least, -1, most, most, true},
		{least, least, least, most, false},
		{most - 1, most, most, 0, true},
		{most, most, least, 0, false},
		{least, most, 0, 0, true},
		{0, most, least, 0, false},
	} {
		for _, thread := range far {
			for _, other := range far {
				a, s := of(thread, x.aFrom, x.aTo), of(other, x.sFrom, x.sTo)
				if is := grace.Spans(a, s); is != x.want {
					t.Errorf("%d: %v, %v: %v, want %v", i, a, s, is, x.want)
				}
			}
		}
	}
}

// P15.1: Spans of all small places, and of some at the edges of numbers.
func TestSpansOfAllPlaces(t *testing.T) {
	places := []int{least, least + 1, -1 << 32, -3, -2, -1, 0, 1, 2, 3, 4, 1 << 32, most - 1, most}
	for _, aFrom := range places {
		for _, aTo := range places {
			for _, sFrom := range places {
				for _, sTo := range places {
					a, s := api.Section{From: aFrom, To: aTo}, api.Section{From: sFrom, To: sTo}
					if is := grace.Spans(a, s); is != spans(a, s) {
						t.Fatalf("%v, %v: %v", a, s, is)
					}
				}
			}
		}
	}
}

// P15.1, P15.2: all rows of up to six events of two threads, and of up to five of three.
func TestAllRows(t *testing.T) {
	for threads, many := range map[int]int{1: 8, 2: 6, 3: 5} {
		var all []api.Event
		for thread := range threads {
			for _, kind := range counting {
				all = append(all, event(kind, thread))
			}
		}
		l := make([]api.Event, 0, many)
		var longer func()
		longer = func() {
			held(t, l)
			if len(l) == many {
				return
			}
			for _, e := range all {
				l = append(l, e)
				longer()
				l = l[:len(l)-1]
			}
		}
		longer()
	}
}

// P15.1, P15.2: thrown rows of threads of all numbers.
func TestThrownRows(t *testing.T) {
	r := rand.New(rand.NewSource(15))
	for range 4000 {
		threads := make([]int, 1+r.Intn(8))
		for i := range threads {
			threads[i] = far[r.Intn(len(far))]
		}
		held(t, thrown(r, r.Intn(40), 1+r.Intn(10), threads))
	}
	for range 300 {
		held(t, waited(r, 60, far[:2+r.Intn(6)]))
	}
}

// P15.1: events of each other kind count for nothing, whatever is open, and all of them together likewise.
func TestOtherKinds(t *testing.T) {
	for _, kind := range others {
		l := row(kind, 0, lock, 0, kind, 0, sync, 1, kind, 1, unlock, 0, kind, 0, synced, 1, kind, 1)
		if s := grace.Sections(l); !slices.Equal(s, []api.Section{of(0, 1, 5)}) {
			t.Errorf("%d: sections %v", kind, s)
		}
		if s := grace.Syncs(l); !slices.Equal(s, []api.Section{of(1, 3, 7)}) {
			t.Errorf("%d: syncs %v", kind, s)
		}
		if n, is := grace.Check(l); n != 0 || !is {
			t.Errorf("%d: %d, %v", kind, n, is)
		}
	}
	var l []api.Event
	for _, kind := range others {
		l = append(l, event(kind, 0), event(kind, most))
	}
	if a, s := grace.Sections(l), grace.Syncs(l); len(a) != 0 || len(s) != 0 {
		t.Error(a, s)
	}
	if n, is := grace.Check(l); n != 0 || !is {
		t.Error(n, is)
	}
}

// P15.1: a thread may be in as deep as there are events, and all threads' numbers are different ones.
func TestDeepAndMany(t *testing.T) {
	for _, many := range []int{1, 2, 6, 63, 64, 65, 255, 256, 257, 1 << 16} {
		var l []api.Event
		for _, kind := range []int{lock, unlock} {
			for range many {
				l = append(l, event(kind, 3))
			}
		}
		if s := grace.Sections(l); !slices.Equal(s, []api.Section{of(3, 0, 2*many-1)}) {
			t.Error(many, s)
		}
		if s := grace.Sections(l[:2*many-1]); !slices.Equal(s, []api.Section{of(3, 0, -1)}) {
			t.Error(many, s)
		}
	}
	for _, kind := range []int{lock, sync} {
		var l []api.Event
		for _, thread := range far {
			l = append(l, event(kind, thread))
		}
		for _, thread := range far {
			l = append(l, event(kind+1, thread))
		}
		s := slices.Concat(grace.Sections(l), grace.Syncs(l))
		for i, thread := range far {
			if want := of(thread, i, len(far)+i); len(s) != len(far) || s[i] != want {
				t.Fatal(kind, i, s)
			}
		}
	}
}

// P15.3: sections of one thread have no place in common; each stretch has places of its own thread's events, and they begin in order.
func TestNoPlaceInCommon(t *testing.T) {
	r := rand.New(rand.NewSource(153))
	for range 1000 {
		l := thrown(r, r.Intn(200), 20, far[:1+r.Intn(5)])
		for kind, all := range map[int][]api.Section{lock: grace.Sections(l), sync: grace.Syncs(l)} {
			free := map[int]int{}
			last := -1
			for _, s := range all {
				if s.From <= last || s.From < free[s.Thread] || l[s.From].Kind != kind || l[s.From].Thread != s.Thread {
					t.Fatalf("%v in %v of %v", s, all, l)
				}
				last, free[s.Thread] = s.From, s.To+1
				if s.To == -1 {
					free[s.Thread] = len(l)
				} else if s.To <= s.From || l[s.To].Kind != kind+1 || l[s.To].Thread != s.Thread {
					t.Fatalf("%v in %v of %v", s, all, l)
				}
			}
		}
	}
}

// upTo is the stretches as they are when only so many events are told.
func upTo(all []api.Section, many int) []api.Section {
	var cut []api.Section
	for _, s := range all {
		if s.From >= many {
			continue
		}
		if s.To >= many {
			s.To = -1
		}
		cut = append(cut, s)
	}
	return cut
}

// P15.3: events that are right are right up to any place; what is told of the first ones is what is told of all, up to there.
func TestUpToAnyPlace(t *testing.T) {
	r := rand.New(rand.NewSource(1531))
	for range 300 {
		l := waited(r, 80, far[:2+r.Intn(4)])
		for many := range len(l) + 1 {
			if n, is := grace.Check(l[:many]); n != 0 || !is {
				t.Fatalf("%d of %v: %d, %v", many, l, n, is)
			}
			if a, s := grace.Sections(l[:many]), grace.Syncs(l[:many]); !slices.Equal(a, upTo(grace.Sections(l), many)) || !slices.Equal(s, upTo(grace.Syncs(l), many)) {
				t.Fatalf("%d of %v: %v, %v", many, l, a, s)
			}
		}
	}
	for range 1000 {
		l := thrown(r, 60, 20, far[:2+r.Intn(4)])
		wrong := false
		for many := range len(l) + 1 {
			_, is := grace.Check(l[:many])
			if wrong && is {
				t.Fatalf("%d of %v are right, and fewer are not", many, l)
			}
			wrong = !is
		}
	}
}

// without is the events without one of their syncs.
func without(l []api.Event, s api.Section) []api.Event {
	var left []api.Event
	for place, e := range l {
		within := place >= s.From && (s.To < 0 || place <= s.To)
		if !within || e.Thread != s.Thread || e.Kind != sync && e.Kind != synced {
			left = append(left, e)
		}
	}
	return left
}

// P15.3: events that are right are right without any of their syncs, and those that are not are right without all.
func TestWithoutSyncs(t *testing.T) {
	r := rand.New(rand.NewSource(1532))
	for range 300 {
		l := waited(r, 80, far[:2+r.Intn(4)])
		all := grace.Syncs(l)
		for i, s := range all {
			left := without(l, s)
			if n, is := grace.Check(left); n != 0 || !is {
				t.Fatalf("%v without %v: %d, %v", l, s, n, is)
			}
			if many := len(grace.Syncs(left)); many != len(all)-1 {
				t.Fatalf("%v without %v, number %d: %d syncs", l, s, i, many)
			}
		}
	}
	for range 300 {
		l := thrown(r, 60, 20, far[:2+r.Intn(4)])
		for s := grace.Syncs(l); len(s) > 0; s = grace.Syncs(l) {
			l = without(l, s[r.Intn(len(s))])
		}
		if n, is := grace.Check(l); n != 0 || !is {
			t.Fatalf("%v: %d, %v", l, n, is)
		}
	}
}

// P15.3: threads' numbers and the words of events do not matter: others have the same told, of those threads.
func TestOtherThreads(t *testing.T) {
	r := rand.New(rand.NewSource(1533))
	for range 1000 {
		l := thrown(r, r.Intn(60), 20, []int{0, 1, 2, 3})
		names := r.Perm(len(far))
		changed := slices.Clone(l)
		for i := range changed {
			changed[i].Thread = far[names[l[i].Thread]]
			changed[i].Words = [4]int{r.Int(), -r.Int(), r.Intn(9), least}
		}
		renamed := func(all []api.Section) []api.Section {
			all = slices.Clone(all)
			for i := range all {
				all[i].Thread = far[names[all[i].Thread]]
			}
			return all
		}
		if a, s := grace.Sections(changed), grace.Syncs(changed); !slices.Equal(a, renamed(grace.Sections(l))) || !slices.Equal(s, renamed(grace.Syncs(l))) {
			t.Fatalf("%v: %v, %v", changed, a, s)
		}
		n, is := grace.Check(l)
		if number, right := grace.Check(changed); number != n || right != is {
			t.Fatalf("%v: %d, %v, want %d, %v", changed, number, right, n, is)
		}
	}
}

// P15.3: other events among them do not matter: all is told as it was, at the places where it then stands.
func TestOtherEventsAmongThem(t *testing.T) {
	r := rand.New(rand.NewSource(1534))
	for range 1000 {
		l := thrown(r, r.Intn(60), 1000, far[:4])
		var among []api.Event
		var now []int
		for _, e := range l {
			for r.Intn(2) == 0 {
				among = append(among, event(others[r.Intn(len(others))], far[r.Intn(5)]))
			}
			now = append(now, len(among))
			among = append(among, e)
		}
		moved := func(all []api.Section) []api.Section {
			all = slices.Clone(all)
			for i, s := range all {
				all[i].From = now[s.From]
				if s.To >= 0 {
					all[i].To = now[s.To]
				}
			}
			return all
		}
		if a, s := grace.Sections(among), grace.Syncs(among); !slices.Equal(a, moved(sections(l))) || !slices.Equal(s, moved(syncs(l))) {
			t.Fatalf("%v: %v, %v", among, a, s)
		}
		n, is := check(l)
		if number, right := grace.Check(among); number != n || right != is {
			t.Fatalf("%v: %d, %v, want %d, %v", among, number, right, n, is)
		}
	}
}

// P15.2: beside true there is nothing; beside false stands the number of a section that spans a sync, ahead of which none does.
func TestCheckBySpans(t *testing.T) {
	r := rand.New(rand.NewSource(152))
	right := 0
	for range 3000 {
		l := thrown(r, r.Intn(50), 20, far[:1+r.Intn(6)])
		n, is := grace.Check(l)
		all, waits := grace.Sections(l), grace.Syncs(l)
		bad := func(a api.Section) bool {
			return slices.ContainsFunc(waits, func(s api.Section) bool { return grace.Spans(a, s) })
		}
		if is {
			right++
			if n != 0 || slices.ContainsFunc(all, bad) {
				t.Fatalf("%v: %d, %v", l, n, is)
			}
		} else if n < 0 || n >= len(all) || slices.IndexFunc(all, bad) != n {
			t.Fatalf("%v: %d, %v", l, n, is)
		}
	}
	if right < 100 || right > 2900 {
		t.Error("too much alike:", right)
	}
}

// R1, R3, R4: no call keeps anything, nil counts as empty, the list that is handed in stays, and an answer is a list of its own.
func TestKeepsNothing(t *testing.T) {
	whole := row(lock, 0, sync, 1, lock, 2, unlock, 0, synced, 1, sync, 0, unlock, 2, sync, 2, unlock, 2)
	was := slices.Clone(whole)
	l := whole[:7]
	for range 3 {
		a, s := grace.Sections(l), grace.Syncs(l)
		if !slices.Equal(a, []api.Section{of(0, 0, 3), of(2, 2, 6)}) || !slices.Equal(s, []api.Section{of(1, 1, 4), of(0, 5, -1)}) {
			t.Fatal(a, s)
		}
		if n, is := grace.Check(l); n != 0 || !is {
			t.Fatal(n, is)
		}
		a[0], s[1] = of(9, 9, 9), of(8, 8, 8)
		if n, is := grace.Check(row(lock, 1, sync, 0, synced, 0)); n != 0 || is {
			t.Fatal(n, is)
		}
		if !slices.Equal(whole, was) {
			t.Fatal("it was changed:", whole)
		}
	}
	for _, empty := range [][]api.Event{nil, {}, whole[:0]} {
		if a, s := grace.Sections(empty), grace.Syncs(empty); len(a) != 0 || len(s) != 0 {
			t.Error(a, s)
		}
		if n, is := grace.Check(empty); n != 0 || !is {
			t.Error(n, is)
		}
	}
}

// P1: every call ends, at long lists too, in which as many sections stand as syncs.
func TestEveryCallEnds(t *testing.T) {
	const many = 1 << 18
	in, waits := make([]api.Event, many), make([]api.Event, 2*many)
	for i := range in {
		in[i] = event(lock, i)
		waits[2*i], waits[2*i+1] = event(sync, -i), event(synced, -i)
	}
	if n, is := grace.Check(slices.Concat(waits, in)); n != 0 || !is {
		t.Error(n, is)
	}
	if n, is := grace.Check(slices.Concat(waits, in, waits[:1])); n != 0 || !is {
		t.Error(n, is)
	}
	if n, is := grace.Check(slices.Concat(waits, in, waits)); n != 0 || is {
		t.Error(n, is)
	}
	var out []api.Event
	for i := range many - 1 {
		out = append(out, event(unlock, i))
	}
	if n, is := grace.Check(slices.Concat(waits, in, out, waits)); n != many-1 || is {
		t.Error(n, is)
	}
	if n, is := grace.Check(slices.Concat(waits, in, waits[:1], out, waits)); n != many-1 || is {
		t.Error(n, is)
	}
	l := slices.Concat(waits, in, out, waits)
	if a, s := grace.Sections(l), grace.Syncs(l); len(a) != many || len(s) != 2*many {
		t.Error(len(a), len(s))
	}
}
