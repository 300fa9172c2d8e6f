package sched_test

import (
	"fmt"
	"math"
	"slices"
	"strings"
	"testing"

	"respite/api"
	"respite/sched"
	"respite/step"
)

const (
	most  = math.MaxInt
	least = math.MinInt
)

// told is all that a world is: an empty list and none are alike.
func told(w api.World) string { return fmt.Sprint(w) }

// same tells whether two worlds are alike.
func same(a, b api.World) bool { return told(a) == told(b) }

// empty tells whether nothing at all is told.
func empty(w api.World) bool { return same(w, api.World{}) }

// words is a memory of so many words that are had, all 0, but for the first one, that nobody has had yet.
func words(n int) api.Memory {
	tags := slices.Repeat([]int{api.TLive}, n)
	tags[0] = api.TNever
	return api.Memory{Words: make([]int, n), Tags: tags}
}

// lined is a text of these lines.
func lined(lines ...string) string { return strings.Join(lines, "\n") + "\n" }

// made is a world of four words, of labels and lines that may be.
func made(t *testing.T, depth int, labels string, lines ...string) api.World {
	t.Helper()
	w, e := sched.New(lined(lines...), strings.Fields(labels), words(4), depth)
	if e != api.OK {
		t.Fatal(labels, lines, e)
	}
	return w
}

func steps(thread int) api.Act   { return api.Act{Kind: api.AStep, Thread: thread} }
func flushes(thread int) api.Act { return api.Act{Kind: api.AFlush, Thread: thread} }

// runs is the world behind acts, of which so many are done.
func runs(t *testing.T, w api.World, want int, acts ...api.Act) api.World {
	t.Helper()
	was := told(w)
	got, done, e := sched.Run(w, acts)
	if e != api.OK || done != want || !step.Right(got) {
		t.Fatalf("%v, %v: %v, %d done, %v, want %d", w, acts, got, done, e, want)
	}
	if told(w) != was {
		t.Errorf("%s was changed: %v", was, w)
	}
	return got
}

// does holds that an act is done, and what the world is then.
func does(t *testing.T, w api.World, a api.Act, want api.World) {
	t.Helper()
	was := told(w)
	if got, done, e := sched.Do(w, a); e != api.OK || !done || !same(got, want) {
		t.Errorf("%s: %v: %v, %v, %v\nwant %v", was, a, got, done, e, want)
	}
	if got := runs(t, w, 1, a); !same(got, want) {
		t.Errorf("%s: run %v: %v\nwant %v", was, a, got, want)
	}
	if told(w) != was {
		t.Errorf("%s was changed: %v", was, w)
	}
}

// leaves holds that an act is not done, and that the world stays.
func leaves(t *testing.T, w api.World, a api.Act) {
	t.Helper()
	was := told(w)
	if got, done, e := sched.Do(w, a); e != api.OK || done || told(got) != was {
		t.Errorf("%s: %v: %v, %v, %v", was, a, got, done, e)
	}
	if got := runs(t, w, 0, a); told(got) != was {
		t.Errorf("%s: run %v: %v", was, a, got)
	}
	if told(w) != was {
		t.Errorf("%s was changed: %v", was, w)
	}
}

// isIdle holds whether the world is idle, and that a round is made just where it is not.
func isIdle(t *testing.T, w api.World, want bool) {
	t.Helper()
	was := told(w)
	if is, e := sched.Idle(w); e != api.OK || is != want {
		t.Errorf("%s: idle %v, %v, want %v", was, is, e, want)
	}
	if got, n, e := sched.Rounds(w, 1); e != api.OK || (n == 0) != want || want && told(got) != was {
		t.Errorf("%s: %v, %d rounds, %v", was, got, n, e)
	}
	if told(w) != was {
		t.Errorf("%s was changed: %v", was, w)
	}
}

// rounds is the world behind so many rounds, behind which nothing is left to do, whatever most is above that.
func rounds(t *testing.T, w api.World, want int) api.World {
	t.Helper()
	var last api.World
	for _, n := range []int{0, want / 2, want - 1, want, want + 1, 10000} {
		got, many, e := sched.Rounds(w, max(n, 0))
		if e != api.OK || many != min(max(n, 0), want) {
			t.Errorf("%v: %v, %d rounds of at most %d, %v", w, got, many, n, e)
		}
		if is, e := sched.Idle(got); e != api.OK || is != (n >= want || want == 0) {
			t.Errorf("%v: behind at most %d rounds %v is idle: %v, %v", w, n, got, is, e)
		}
		if n > want && !same(got, last) {
			t.Errorf("%v: %v, want %v", w, got, last)
		}
		last = got
	}
	return last
}

// The chapter's examples.
func TestExamples(t *testing.T) {
	w := made(t, 1, "a", "a:", "halt")
	leaves(t, w, steps(9))
	leaves(t, w, flushes(9))
	if w = rounds(t, w, 1); w.Threads[0].State != api.SHalt {
		t.Error(w)
	}
}

// P9.1: a thread for each label, which starts there, whatever number of them there is, and whatever the depth.
func TestNew(t *testing.T) {
	text := lined("one:", "a0:", "set r1 1", "b:", "c:", "halt", "abcdefghijkl:", "jump b", "halt:", "fence", "end:")
	at := map[string]int{"one": 0, "a0": 0, "b": 1, "c": 1, "abcdefghijkl": 2, "halt": 3, "end": 4}
	code := []api.Instr{{Op: api.OSet, A: 1, B: 1}, {Op: api.OHalt}, {Op: api.OJump, A: 1}, {Op: api.OFence}}
	m := api.Memory{Words: []int{0, 7, 8}, Tags: []int{0, 1, 2}}
	rows := [][]string{
		{"one"}, {"end"}, {"b", "c"}, {"b", "b", "b"}, {"halt", "c", "a0", "end", "one", "abcdefghijkl", "b"},
		{"end", "halt", "abcdefghijkl", "c", "b", "a0", "one", "end"}, slices.Repeat([]string{"halt"}, 8),
	}
	for _, labels := range rows {
		for depth := range 9 {
			want := api.World{Code: code, Tso: api.Tso{Memory: m, Depth: depth, Buffers: make([][]api.Put, len(labels))}}
			for _, label := range labels {
				want.Threads = append(want.Threads, api.Thread{Pc: at[label]})
			}
			if w, e := sched.New(text, labels, m, depth); e != api.OK || !same(w, want) || !step.Right(w) {
				t.Errorf("%v, depth %d: %v, %v\nwant %v", labels, depth, w, e, want)
			}
		}
	}
}

// longest is a text of 40000 bytes: the label `ab`, and many more.
func longest() string {
	text := "ab:\n"
	for n := range 3636 {
		text += fmt.Sprintf("b%08d:\n", n)
	}
	return text
}

// P9.1: texts at the limits.
func TestNewAtTheLimits(t *testing.T) {
	begins := func(text string, labels []string, length int, pcs ...int) {
		t.Helper()
		w, e := sched.New(text, labels, words(160), 8)
		var got []int
		for _, th := range w.Threads {
			got = append(got, th.Pc)
		}
		if e != api.OK || len(w.Code) != length || !slices.Equal(got, pcs) {
			t.Errorf("%v: %d instructions, %v, %v", labels, len(w.Code), got, e)
		}
	}
	begins("a:\n", []string{"a"}, 0, 0)
	begins(strings.Repeat("set r0 -1\n", 999)+"a:\nhalt\nend:\n", []string{"end", "a"}, 1000, 1000, 999)
	begins(longest(), []string{"ab", "b00000000", "b00003635"}, 0, 0, 0, 0)
	if w, e := sched.New(longest(), []string{"b00003636"}, words(1), 0); e != api.ErrLabel || !empty(w) {
		t.Error(w, e)
	}
}

// refuses holds New's error, and that nothing is told beside it.
func refuses(t *testing.T, text string, labels []string, m api.Memory, depth int, want api.Errno) {
	t.Helper()
	was := slices.Clone(labels)
	if w, e := sched.New(text, labels, m, depth); e != want || !empty(w) {
		t.Errorf("%.60q, %.60q, %v, %d: %v, %v, want %v", text, labels, m, depth, w, e, want)
	}
	if !slices.Equal(labels, was) {
		t.Errorf("%.60q was changed: %.60q", was, labels)
	}
}

// P9.1: a text's error comes ahead of all others.
func TestNewTextErrors(t *testing.T) {
	texts := map[string]api.Errno{
		"a:\nhalt":                              api.ErrLine,
		"a:\n\n":                                api.ErrOp,
		"a:\nhalt \n":                           api.ErrLine,
		"a:\nHalt\n":                            api.ErrOp,
		"a:\nset r8 1\n":                        api.ErrRange,
		"a:\njump b\n":                          api.ErrLabel,
		"a:\na:\n":                              api.ErrLabel,
		"a:\nB:\n":                              api.ErrLine,
		"a:\n" + strings.Repeat("halt\n", 1001): api.ErrSize,
		longest() + "\n":                        api.ErrSize,
	}
	for text, want := range texts {
		for _, labels := range [][]string{nil, {"a"}, {"ab"}, {"zz"}, {"a", "zz"}, slices.Repeat([]string{"a"}, 9)} {
			for _, depth := range []int{least, -1, 0, 8, 9, most} {
				refuses(t, text, labels, words(3), depth, want)
				refuses(t, text, labels, api.Memory{}, depth, want)
			}
		}
	}
}

// P9.1: a label that is not there comes behind that, and ahead of what step.New tells.
func TestNewLabelErrors(t *testing.T) {
	text := lined("set r0 1", "a:", "jump end", "a1:", "halt", "end:")
	for _, label := range []string{"", "b", "A", "a:", "a2", "en", "ends", " a", "a ", "a\n", "\na", "a:\na1", "halt", "l0", "l1", "set r0 1", "0", "1", "\x00", "\xff", strings.Repeat("a", 50000)} {
		for _, depth := range []int{least, -1, 0, 8, 9} {
			for _, m := range []api.Memory{words(3), {}, {Words: []int{1}, Tags: []int{0}}} {
				refuses(t, text, []string{label}, m, depth, api.ErrLabel)
				refuses(t, text, []string{label, "a", "end"}, m, depth, api.ErrLabel)
				refuses(t, text, []string{"a", "a", label, "a"}, m, depth, api.ErrLabel)
				refuses(t, text, append(slices.Repeat([]string{"end", "a1"}, 4), label), m, depth, api.ErrLabel)
				refuses(t, text, append(slices.Repeat([]string{"a"}, 300), label), m, depth, api.ErrLabel)
			}
		}
	}
	refuses(t, "", []string{"a"}, words(3), 1, api.ErrLabel)
	refuses(t, "", []string{""}, words(3), 1, api.ErrLabel)
}

// P9.1: what step.New tells comes last.
func TestNewWorldErrors(t *testing.T) {
	text := lined("a:", "halt", "end:")
	some := [][]string{{"a"}, {"a", "end"}, slices.Repeat([]string{"end"}, 8)}
	sizes := [][]string{nil, {}, slices.Repeat([]string{"a"}, 9), slices.Repeat([]string{"a", "end"}, 5000)}
	for _, labels := range slices.Concat(some, sizes) {
		for _, depth := range []int{least, -1, 0, 8, 9, most} {
			for _, m := range []api.Memory{{}, {Words: []int{0}}, {Words: []int{1}, Tags: []int{0}}, {Words: make([]int, 161), Tags: make([]int, 161)}} {
				refuses(t, text, labels, m, depth, api.ErrArg)
			}
			if depth < 0 || depth > 8 || len(labels) < 1 || len(labels) > 8 {
				refuses(t, text, labels, words(3), depth, api.ErrSize)
			}
		}
	}
	refuses(t, "", nil, words(1), 0, api.ErrSize)
}

// at is a world of three threads, no two numbers of which are the same where they need not be: 0 can go on, and has two puts; 1 stands at a mark; 2 has halted, and has one put.
func at() api.World {
	return api.World{
		Code: []api.Instr{{Op: api.OLoad, A: 5, B: 1, C: 3}, {Op: api.OMark, A: 70}, {Op: api.OStore, A: 2, B: 3, C: -4}, {Op: api.OHalt}},
		Tso: api.Tso{
			Memory:  api.Memory{Words: []int{0, 31, 32, 33, 34, 35}, Tags: []int{0, 1, 1, 1, 1, 2}},
			Depth:   2,
			Buffers: [][]api.Put{{{At: 4, Value: 41}, {At: 1, Value: 42}}, nil, {{At: 5, Value: 43}}},
		},
		Threads: []api.Thread{
			{Regs: [8]int{10, 1, 12, 13, 14, 15, 16, 17}, Frames: []api.Frame{{Back: 5, Kept: [4]int{6, 7, 8, 9}}}},
			{Pc: 1, Regs: [8]int{20, 21, 22, 23, 24, 25, 26, 27}, Left: []int{2, 0, 1}},
			{Pc: 3, Regs: [8]int{30, 31, 32, 33, 34, 35, 36, 37}, State: api.SHalt},
		},
		Events: []api.Event{{Kind: 50, Thread: 60, Words: [4]int{51, 52, 53, 54}}, {Kind: -1, Thread: -1}},
	}
}

// with is that world, changed.
func with(change func(w *api.World)) api.World {
	w := at()
	change(&w)
	return w
}

// P9.2: what is done changes the world as the thread's step, or its flush, does, by hand.
func TestDone(t *testing.T) {
	does(t, at(), steps(0), with(func(w *api.World) { w.Threads[0].Regs[5], w.Threads[0].Pc = 41, 1 }))
	does(t, at(), steps(1), with(func(w *api.World) {
		w.Threads[1].Pc = 2
		w.Events = append(w.Events, api.Event{Kind: 70, Thread: 1, Words: [4]int{20, 21, 22, 23}})
	}))
	does(t, at(), flushes(0), with(func(w *api.World) {
		w.Tso.Memory.Words[4], w.Threads[1].Left[0] = 41, 1
		w.Tso.Buffers[0] = w.Tso.Buffers[0][1:]
	}))
	// A step that can't be done as asked, and a flush that is refused, are done all the same.
	lost := with(func(w *api.World) { w.Threads[0].Pc = 4 })
	does(t, lost, steps(0), with(func(w *api.World) {
		w.Threads[0].Pc, w.Threads[0].State, w.Threads[0].Fault = 4, api.SFault, api.ErrRange
	}))
	does(t, at(), flushes(2), with(func(w *api.World) {
		w.Threads[2].State, w.Threads[2].Fault, w.Threads[1].Left[2], w.Tso.Buffers[2] = api.SFault, api.ErrFreed, 0, nil
	}))
}

// P9.2: acts of no kind, or of no thread, are not done, and change nothing.
func TestNoSuchAct(t *testing.T) {
	for _, w := range []api.World{at(), made(t, 2, "a a", "a:", "halt"), made(t, 2, "a a a a a a a a", "a:", "halt")} {
		for _, thread := range []int{least, -2, -1, 0, 1, 2, 3, 7, 8, 9, 255, 256, 1 << 32, most} {
			for _, kind := range []int{least, -2, -1, 2, 3, 255, 256, 1 << 32, 1<<32 + 1, most} {
				leaves(t, w, api.Act{Kind: kind, Thread: thread})
			}
			if thread < 0 || thread >= len(w.Threads) {
				leaves(t, w, steps(thread))
				leaves(t, w, flushes(thread))
			}
		}
	}
}

// P9.2: who can't go on makes no step; where nothing waits, nothing is flushed.
func TestNotDone(t *testing.T) {
	leaves(t, at(), steps(2))
	leaves(t, at(), flushes(1))
	leaves(t, with(func(w *api.World) { w.Threads[0].Pc = 2 }), steps(0)) // the buffer is full
	leaves(t, with(func(w *api.World) { w.Threads[1].State, w.Threads[1].Fault = api.SFault, api.ErrNever }), steps(1))
	leaves(t, with(func(w *api.World) { w.Code[1] = api.Instr{Op: api.OBroad} }), steps(1))
	leaves(t, with(func(w *api.World) { w.Code[0] = api.Instr{Op: api.OFence} }), steps(0))
	leaves(t, with(func(w *api.World) {
		w.Code[1], w.Threads[1].Regs[7], w.Threads[1].Regs[6] = api.Instr{Op: api.OWait, A: 7, B: 6}, 33, 3
	}), steps(1))
}

// wrong are worlds that may not be, by what is wrong with them.
func wrong() map[string]api.World {
	return map[string]api.World{
		"nothing at all":    {},
		"an operation 27":   with(func(w *api.World) { w.Code[3].Op = 27 }),
		"1001 instructions": with(func(w *api.World) { w.Code = make([]api.Instr, 1001) }),
		"no memory":         with(func(w *api.World) { w.Tso.Memory = api.Memory{} }),
		"a tag of 3":        with(func(w *api.World) { w.Tso.Memory.Tags[1] = 3 }),
		"depth -1":          with(func(w *api.World) { w.Tso.Depth = -1 }),
		"depth 9":           with(func(w *api.World) { w.Tso.Depth = 9 }),
		"2 puts of 1":       with(func(w *api.World) { w.Tso.Depth = 1 }),
		"a put for place 6": with(func(w *api.World) { w.Tso.Buffers[2][0].At = 6 }),
		"no threads":        with(func(w *api.World) { w.Threads, w.Tso.Buffers = nil, nil }),
		"9 threads":         with(func(w *api.World) { w.Threads, w.Tso.Buffers = make([]api.Thread, 9), make([][]api.Put, 9) }),
		"a thread too few":  with(func(w *api.World) { w.Threads = w.Threads[:2] }),
		"a buffer too few":  with(func(w *api.World) { w.Tso.Buffers = w.Tso.Buffers[:2] }),
		"at -1":             with(func(w *api.World) { w.Threads[2].Pc = -1 }),
		"at 1001":           with(func(w *api.World) { w.Threads[1].Pc = 1001 }),
		"7 calls":           with(func(w *api.World) { w.Threads[0].Frames = make([]api.Frame, 7) }),
		"state 3":           with(func(w *api.World) { w.Threads[2].State = 3 }),
		"faulted with OK":   with(func(w *api.World) { w.Threads[2].State = api.SFault }),
		"runs with a fault": with(func(w *api.World) { w.Threads[1].Fault = api.ErrArg }),
		"2 left of 3":       with(func(w *api.World) { w.Threads[1].Left = []int{1, 1} }),
		"9 left of one":     with(func(w *api.World) { w.Threads[1].Left = []int{1, 9, 1} }),
	}
}

// P9.2, P9.3: a world that may not be is ErrArg to all calls, whatever else they are handed.
func TestWrongWorlds(t *testing.T) {
	acts := []api.Act{steps(0), flushes(0), steps(2), flushes(1), steps(9), {Kind: 2}, {Kind: -1, Thread: -1}}
	for name, w := range wrong() {
		was := told(w)
		for k, a := range acts {
			if got, done, e := sched.Do(w, a); e != api.ErrArg || done || !empty(got) {
				t.Errorf("%s: Do %v: %v, %v, %v", name, a, got, done, e)
			}
			if got, done, e := sched.Run(w, acts[:k]); e != api.ErrArg || done != 0 || !empty(got) {
				t.Errorf("%s: Run %v: %v, %v, %v", name, acts[:k], got, done, e)
			}
		}
		if is, e := sched.Idle(w); e != api.ErrArg || is {
			t.Errorf("%s: Idle %v, %v", name, is, e)
		}
		for _, n := range []int{least, -1, 0, 1, 10000, 10001, most} {
			if got, n, e := sched.Rounds(w, n); e != api.ErrArg || n != 0 || !empty(got) {
				t.Errorf("%s: %d rounds: %v, %v", name, n, got, e)
			}
		}
		if told(w) != was {
			t.Errorf("%s was changed: %v", was, w)
		}
	}
}

// P9.2: acts are done in their order.
func TestRunInOrder(t *testing.T) {
	w := made(t, 1, "a b", "a:", "set r0 1", "set r1 5", "store r1 r0 0", "halt", "b:", "set r0 1", "load r3 r0 0", "halt")
	w = runs(t, w, 3, steps(0), steps(1), steps(0))
	sees := func(want, done int, acts ...api.Act) {
		t.Helper()
		got := runs(t, w, done, acts...)
		if th := got.Threads[1]; th.Regs[3] != want || th.State != api.SHalt {
			t.Errorf("%v: %v", acts, got)
		}
	}
	sees(0, 2, steps(1), steps(1))
	sees(0, 3, steps(1), steps(0), steps(1))
	sees(0, 3, steps(0), steps(1), steps(1))
	sees(5, 4, steps(0), flushes(0), steps(1), steps(1))
	sees(0, 4, steps(0), steps(1), flushes(0), steps(1))
	sees(0, 3, flushes(0), steps(1), steps(1), steps(1), flushes(1), steps(0))
	sees(5, 5, steps(2), steps(0), steps(0), flushes(1), flushes(0), api.Act{Kind: 2}, steps(1), flushes(0), steps(1), steps(1), steps(0))
}

// P9.2: no acts change nothing; what is marked comes behind what was, in the order of the acts.
func TestRunMarks(t *testing.T) {
	if w := runs(t, at(), 0); !same(w, at()) {
		t.Error(w)
	}
	w := made(t, 0, "a a", "a:", "mark 7", "plus r2 r2 1", "jump a")
	w.Events = at().Events
	w = runs(t, w, 9, steps(1), steps(0), steps(1), steps(1), steps(1), steps(0), steps(0), flushes(0), steps(0), steps(7), steps(0))
	want := append(at().Events,
		api.Event{Kind: 7, Thread: 1}, api.Event{Kind: 7, Thread: 0},
		api.Event{Kind: 7, Thread: 1, Words: [4]int{0, 0, 1, 0}}, api.Event{Kind: 7, Thread: 0, Words: [4]int{0, 0, 1, 0}})
	if !slices.Equal(w.Events, want) {
		t.Error(w.Events)
	}
}

// P9.2: a world is idle where no thread can go on, and nothing waits; whichever thread it is.
func TestIdle(t *testing.T) {
	isIdle(t, at(), false)
	for threads := 1; threads <= 8; threads++ {
		halted := made(t, 8, strings.Repeat("a ", threads), "a:", "halt", "fence", "broad", "wait r1 r2", "b:", "store r0 r2 0")
		for k := range halted.Threads {
			halted.Threads[k].State, halted.Threads[k].Regs[2] = []int{api.SHalt, api.SRun}[k%2], 1
			if k%2 == 1 {
				halted.Threads[k].Pc = 3 // it waits for a word that no one stores to
			}
		}
		isIdle(t, halted, true)
		for k := range threads {
			becomes := func(want bool, change func(w *api.World, th *api.Thread)) {
				t.Helper()
				w := halted
				w.Threads, w.Tso.Buffers = slices.Clone(w.Threads), slices.Clone(w.Tso.Buffers)
				change(&w, &w.Threads[k])
				isIdle(t, w, want)
			}
			put := []api.Put{{At: 1, Value: 7}}
			becomes(false, func(w *api.World, th *api.Thread) { w.Tso.Buffers[k] = put })
			for pc := range 6 {
				becomes(pc == 3, func(w *api.World, th *api.Thread) { th.State, th.Pc = api.SRun, pc })
				becomes(true, func(w *api.World, th *api.Thread) { th.State, th.Pc = api.SHalt, pc })
				becomes(true, func(w *api.World, th *api.Thread) { th.State, th.Fault, th.Pc = api.SFault, api.ErrDeep, pc })
				becomes(false, func(w *api.World, th *api.Thread) { th.State, th.Pc, w.Tso.Buffers[k] = api.SHalt, pc, put })
				becomes(false, func(w *api.World, th *api.Thread) { th.State, th.Pc, w.Tso.Buffers[k] = api.SRun, pc, put })
			}
			// What is left never ends here: nothing waits.
			for left := range threads {
				becomes(true, func(w *api.World, th *api.Thread) {
					th.State, th.Pc, th.Left = api.SRun, 2, make([]int, threads)
					th.Left[left] = 1
				})
			}
			becomes(false, func(w *api.World, th *api.Thread) { th.State, th.Pc, th.Left = api.SRun, 2, make([]int, threads) })
		}
	}
}

// P9.3: a round is of each thread, from 0 on.
func TestRoundsInOrder(t *testing.T) {
	for threads := 1; threads <= 8; threads++ {
		w := rounds(t, made(t, 1, strings.Repeat("a ", threads), "a:", "mark 0", "mark 1", "mark 2", "halt"), 4)
		var want []api.Event
		for kind := range 3 {
			for thread := range threads {
				want = append(want, api.Event{Kind: kind, Thread: thread})
			}
		}
		if !slices.Equal(w.Events, want) {
			t.Error(threads, w.Events)
		}
	}
}

// P9.3: a thread's flush comes right behind its step: those behind it see what it has stored, those ahead of it do not.
func TestRoundsFlush(t *testing.T) {
	for depth := range 9 {
		w := made(t, depth, "a b c",
			"a:", "set r0 1", "set r7 0", "load r3 r0 0", "halt",
			"b:", "set r0 1", "set r1 5", "store r1 r0 0", "halt",
			"c:", "set r0 1", "set r7 0", "load r3 r0 0", "halt")
		w = rounds(t, w, 4)
		if a, c := w.Threads[0].Regs[3], w.Threads[2].Regs[3]; a != 0 || c != 5 || w.Tso.Memory.Words[1] != 5 {
			t.Error(depth, a, c, w)
		}
	}
}

// P9.3: of each thread one put is flushed in a round, behind its step, even if it has halted or faulted.
func TestRoundsOfPuts(t *testing.T) {
	for n := range 9 {
		for state, fault := range []api.Errno{api.OK, api.OK, api.ErrDeep} {
			w := made(t, 8, "a a", "a:", "halt")
			w.Threads[1].State, w.Threads[1].Fault = state, fault
			for k := range n {
				w.Tso.Buffers[1] = append(w.Tso.Buffers[1], api.Put{At: 1 + k%2, Value: 10 + k})
			}
			w = rounds(t, w, max(n, 1))
			want := []int{0, 0, 0, 0}
			for k := range n {
				want[1+k%2] = 10 + k
			}
			if !slices.Equal(w.Tso.Memory.Words, want) || w.Threads[0].State != api.SHalt || w.Threads[1].Fault != fault {
				t.Error(n, w)
			}
		}
	}
}

// P9.3: how many rounds it takes, by hand; who waits for what never comes is left.
func TestRoundsByHand(t *testing.T) {
	text := []string{"a:", "set r1 3", "again:", "plus r1 r1 -1", "some r1 again", "end:"}
	w := rounds(t, made(t, 1, "a", text...), 8)
	if th := w.Threads[0]; th.State != api.SFault || th.Fault != api.ErrRange || th.Pc != 3 {
		t.Error(w)
	}
	rounds(t, made(t, 1, "a end", text...), 8)
	rounds(t, made(t, 1, "end end", text...), 1)
	// The fence waits for the flush of the round ahead.
	rounds(t, made(t, 1, "a", "a:", "set r0 1", "store r0 r0 0", "fence", "halt"), 4)
	// Broad takes two steps.
	rounds(t, made(t, 1, "a", "a:", "broad", "halt"), 3)
	w = rounds(t, made(t, 1, "a b", "a:", "set r0 1", "wait r1 r0", "halt", "b:", "set r0 1", "halt"), 2)
	if w.Threads[0].State != api.SRun || w.Threads[0].Pc != 1 {
		t.Error(w)
	}
	rounds(t, w, 0)
	// Who stores the word wakes who waits for another one, in the same round if that one comes behind.
	lines := []string{"a:", "set r0 1", "wait r1 r0", "halt", "b:", "set r0 1", "set r2 0", "store r0 r0 0", "halt"}
	rounds(t, made(t, 1, "a b", lines...), 5)
	rounds(t, made(t, 1, "b a", lines...), 4)
}

// P9.3: where something is left to do for ever, as many rounds are made as are asked for, up to 10000.
func TestRoundsWithoutEnd(t *testing.T) {
	w := made(t, 1, "a a a a a a a b", "a:", "plus r1 r1 1", "jump a", "b:", "mark 1", "jump b")
	for _, n := range []int{0, 1, 2, 3, 100, 9999, 10000} {
		got, many, e := sched.Rounds(w, n)
		if e != api.OK || many != n || len(got.Events) != (n+1)/2 {
			t.Fatal(n, many, e, len(got.Events))
		}
		for _, th := range got.Threads[:7] {
			if th.Regs[1] != (n+1)/2 || th.Pc != n%2 {
				t.Error(n, th)
			}
		}
	}
}

// P9.3: most is 0 to 10000, whatever is left to do.
func TestRoundsErrors(t *testing.T) {
	idle := made(t, 0, "a", "a:", "halt")
	idle.Threads[0].State = api.SHalt
	for _, w := range []api.World{idle, at()} {
		for _, n := range []int{least, -10000, -1, 10001, 1 << 32, most} {
			if got, many, e := sched.Rounds(w, n); e != api.ErrArg || many != 0 || !empty(got) {
				t.Error(n, got, many, e)
			}
		}
		for _, n := range []int{0, 10000} {
			if got, _, e := sched.Rounds(w, n); e != api.OK || !step.Right(got) {
				t.Error(n, got, e)
			}
		}
	}
}

// dice throws numbers, the same ones each time.
type dice uint64

// up is a number from 0 on, below n.
func (d *dice) up(n int) int {
	*d = *d*6364136223846793005 + 1442695040888963407
	return int(uint64(*d)>>33) % n
}

// thrown is a text of so many instructions, with a label `l` and a number at each, and at the end.
func thrown(d *dice, length int) string {
	text := ""
	for k := range length {
		r := func() string { return fmt.Sprintf(" r%d", d.up(8)) }
		n := func() string { return fmt.Sprintf(" %d", d.up(4)) }
		l := func() string { return fmt.Sprintf(" l%d", d.up(length+1)) }
		all := []string{
			"halt", "set" + r() + n(), "set" + r() + n(), "plus" + r() + r() + n(), "sub" + r() + r() + r(),
			"jump" + l(), "zero" + r() + l(), "some" + r() + l(), "call" + l(), "ret", "self" + r(),
			"load" + r() + r() + n(), "load" + r() + r() + n(), "store" + r() + r() + n(), "store" + r() + r() + n(), "store" + r() + r() + n(),
			"fence", "cas" + r() + r() + r(), "xchg" + r() + r(), "fetch" + r() + r(), "broad", "broad",
			"wait" + r() + r(), "own" + r() + r(), "drop" + r() + r(), "mark" + n(),
		}
		text += fmt.Sprintf("l%d:\n%s\n", k, all[d.up(len(all))])
	}
	return text + fmt.Sprintf("l%d:\n", length)
}

// drawn is a world of one to eight threads.
func drawn(t *testing.T, d *dice) api.World {
	t.Helper()
	m := api.Memory{Words: make([]int, 8), Tags: make([]int, 8)}
	for k := range m.Tags {
		m.Tags[k] = []int{api.TNever, api.TLive, api.TLive, api.TLive, api.TLive, api.TLive, api.TLive, api.TFreed}[d.up(8)]
		m.Words[k] = m.Tags[k] * d.up(3)
	}
	length := 1 + d.up(20)
	labels := make([]string, 1+d.up(8))
	for k := range labels {
		labels[k] = fmt.Sprintf("l%d", d.up(length+1))
	}
	w, e := sched.New(thrown(d, length), labels, m, d.up(5))
	if e != api.OK {
		t.Fatal(labels, e)
	}
	return w
}

// script are thrown acts, some of which are of no thread, or of no kind.
func script(d *dice, threads, length int) []api.Act {
	acts := make([]api.Act, length)
	for k := range acts {
		acts[k] = api.Act{Kind: []int{0, 0, 0, 1, 0, 0, 1, 0, 2, -1}[d.up(10)], Thread: d.up(threads+2) - 1}
	}
	return acts
}

// telling is the world behind the act, and whether it is done, as the chapter's words say it one by one.
func telling(w api.World, a api.Act) (api.World, bool) {
	if a.Thread < 0 || a.Thread >= len(w.Threads) {
		return w, false
	}
	if can, _ := step.Can(w, a.Thread); a.Kind == 0 && can {
		w, _ = step.Step(w, a.Thread)
		return w, true
	}
	if a.Kind == 1 && len(w.Tso.Buffers[a.Thread]) != 0 {
		w, _ = step.Flush(w, a.Thread)
		return w, true
	}
	return w, false
}

// tellsIdle tells whether no thread can go on, and nothing waits.
func tellsIdle(w api.World) bool {
	waits := 0
	for thread := range w.Threads {
		if can, _ := step.Can(w, thread); can {
			waits++
		}
		waits += len(w.Tso.Buffers[thread])
	}
	return waits == 0
}

// P9.2, P9.4: whatever the script, acts are done as the telling says, one by one and all at once; in two parts, and without those that are not done.
func TestAllScripts(t *testing.T) {
	d := dice(9)
	idle, undone := 0, 0
	for range 800 {
		w := drawn(t, &d)
		acts := script(&d, len(w.Threads), d.up(80))
		now := w
		var done []api.Act
		for _, a := range acts {
			is, e := sched.Idle(now)
			if e != api.OK || is != tellsIdle(now) {
				t.Fatalf("%v: idle %v, %v", now, is, e)
			}
			want, does := telling(now, a)
			got, did, e := sched.Do(now, a)
			if e != api.OK || did != does || !same(got, want) {
				t.Fatalf("%v: %v: %v, %v, %v\nwant %v, %v", now, a, got, did, e, want, does)
			}
			if is && did {
				t.Fatalf("%v: nothing is left to do, but %v", now, a)
			}
			if is {
				idle++
			}
			if now = got; did {
				done = append(done, a)
			} else {
				undone++
			}
		}
		if got := runs(t, w, len(done), acts...); !same(got, now) {
			t.Fatalf("%v: %v: %v\nwant %v", w, acts, got, now)
		}
		if got := runs(t, w, len(done), done...); !same(got, now) {
			t.Fatalf("%v: %v: %v\nwant %v", w, done, got, now)
		}
		cut := d.up(len(acts) + 1)
		one, first, e := sched.Run(w, acts[:cut])
		two, second, f := sched.Run(one, acts[cut:])
		if e != api.OK || f != api.OK || first+second != len(done) || !same(two, now) {
			t.Fatalf("%v: %v, %v: %v\nwant %v", w, acts[:cut], acts[cut:], two, now)
		}
	}
	if idle == 0 || undone == 0 {
		t.Error("never idle, or never not done:", idle, undone)
	}
}

// P9.3, P9.4: rounds are scripts, made till nothing is left to do; in two parts they are as they are at once.
func TestAllRounds(t *testing.T) {
	d := dice(10)
	ended, went := 0, 0
	for range 800 {
		w := drawn(t, &d)
		w = runs(t, w, 0)
		w, _, _ = sched.Run(w, script(&d, len(w.Threads), d.up(30)))
		var round []api.Act
		for thread := range w.Threads {
			round = append(round, api.Act{Kind: 0, Thread: thread}, api.Act{Kind: 1, Thread: thread})
		}
		n := d.up(40)
		now, many := w, 0
		for many < n && !tellsIdle(now) {
			for _, a := range round {
				now, _ = telling(now, a)
			}
			many++
		}
		got, made, e := sched.Rounds(w, n)
		if e != api.OK || made != many || !same(got, now) {
			t.Fatalf("%v: at most %d rounds: %v, %d, %v\nwant %v, %d", w, n, got, made, e, now, many)
		}
		if script, _, _ := sched.Run(w, slices.Repeat(round, many)); !same(script, now) {
			t.Fatalf("%v: %d rounds: %v\nwant %v", w, many, script, now)
		}
		cut := d.up(n + 1)
		one, first, _ := sched.Rounds(w, cut)
		two, second, _ := sched.Rounds(one, n-cut)
		if first+second != many || !same(two, now) {
			t.Fatalf("%v: %d and %d rounds: %v, %d and %d\nwant %v, %d", w, cut, n-cut, two, first, second, now, many)
		}
		if many < n {
			ended++
		} else {
			went++
		}
	}
	if ended == 0 || went == 0 {
		t.Error("all ended, or none:", ended, went)
	}
}

// fill has all of a list, and what has room behind it, be v.
func fill[T any](list []T, v T) {
	list = list[:cap(list)]
	for k := range list {
		list[k] = v
	}
}

// scribble changes each number in a world's lists, and writes behind them.
func scribble(w api.World) {
	fill(w.Code, api.Instr{Op: -9})
	fill(w.Events, api.Event{Kind: -9})
	fill(w.Tso.Memory.Words, -9)
	fill(w.Tso.Memory.Tags, -9)
	for _, b := range w.Tso.Buffers {
		fill(b, api.Put{At: -9})
	}
	for _, th := range w.Threads {
		fill(th.Frames, api.Frame{Back: -9})
		fill(th.Left, -9)
	}
	fill(w.Threads, api.Thread{Pc: -9})
	fill(w.Tso.Buffers, []api.Put{{At: -9}})
}

// roomy is the list, with a v behind it.
func roomy[T any](list []T, v T) []T {
	return append(slices.Clone(list), v)[:len(list)]
}

// wide is the world in lists that have something behind them.
func wide(w api.World) api.World {
	w.Code, w.Events, w.Threads = roomy(w.Code, api.Instr{Op: 99}), roomy(w.Events, api.Event{Kind: 99}), roomy(w.Threads, api.Thread{Pc: 99})
	w.Tso.Memory.Words, w.Tso.Memory.Tags = roomy(w.Tso.Memory.Words, 99), roomy(w.Tso.Memory.Tags, 99)
	w.Tso.Buffers = roomy(w.Tso.Buffers, []api.Put{{At: 99}})
	for k := range w.Threads {
		th := &w.Threads[k]
		w.Tso.Buffers[k] = roomy(w.Tso.Buffers[k], api.Put{At: 99})
		th.Frames, th.Left = roomy(th.Frames, api.Frame{Back: 99}), roomy(th.Left, 99)
	}
	return w
}

// behind is what stands behind the lists of a wide world.
func behind(w api.World) string {
	row := fmt.Sprint(w.Code[:len(w.Code)+1], w.Events[:len(w.Events)+1], w.Threads[:len(w.Threads)+1], w.Tso.Buffers[:len(w.Tso.Buffers)+1])
	row += fmt.Sprint(w.Tso.Memory.Words[:len(w.Tso.Memory.Words)+1], w.Tso.Memory.Tags[:len(w.Tso.Memory.Tags)+1])
	for k, th := range w.Threads {
		b := w.Tso.Buffers[k]
		row += fmt.Sprint(b[:len(b)+1], th.Frames[:len(th.Frames)+1], th.Left[:len(th.Left)+1])
	}
	return row
}

// R1, R4, and more: what is done twice is the same; answers share no list with what was handed in, nor with each other, and nothing is written behind its lists.
func TestAnswersShareNothing(t *testing.T) {
	acts := []api.Act{steps(0), flushes(0), steps(1), flushes(2), steps(2), flushes(1), steps(5), {Kind: 2}}
	calls := map[string]func(w api.World) api.World{
		"New": func(w api.World) api.World {
			n, _ := sched.New("a:\nhalt\nb:\n", []string{"a", "b", "a"}, w.Tso.Memory, 2)
			return n
		},
		"no acts":    func(w api.World) api.World { n, _, _ := sched.Run(w, nil); return n },
		"all acts":   func(w api.World) api.World { n, _, _ := sched.Run(w, acts); return n },
		"no rounds":  func(w api.World) api.World { n, _, _ := sched.Rounds(w, 0); return n },
		"one round":  func(w api.World) api.World { n, _, _ := sched.Rounds(w, 1); return n },
		"all rounds": func(w api.World) api.World { n, _, _ := sched.Rounds(w, 10000); return n },
	}
	for _, a := range acts {
		calls[fmt.Sprint("Do ", a)] = func(w api.World) api.World { n, _, _ := sched.Do(w, a); return n }
	}
	for name, call := range calls {
		w := wide(at())
		was := behind(w)
		one, two := call(w), call(w)
		is := told(one)
		if told(two) != is || empty(one) || behind(w) != was {
			t.Errorf("%s: %v, and then %v, of %v", name, one, two, w)
		}
		scribble(two)
		if told(one) != is || behind(w) != was {
			t.Errorf("%s: %v shares with another answer, or with what was handed in: %v", name, one, w)
		}
		scribble(w)
		if told(one) != is {
			t.Errorf("%s: %v shares with what was handed in", name, one)
		}
	}
}

// R4, and more: threads that were handed in with one list in common are told with lists of their own.
func TestSharedLists(t *testing.T) {
	w := at()
	left, frames, b := []int{1, 0, 1}, make([]api.Frame, 2), []api.Put{{At: 1, Value: 5}, {At: 2, Value: 6}}
	for k := range w.Threads {
		w.Threads[k].Left, w.Threads[k].Frames, w.Tso.Buffers[k] = left, frames, b
	}
	for _, a := range []api.Act{steps(9), flushes(9), steps(1), flushes(1)} {
		got, _, _ := sched.Do(w, a)
		for k := range got.Threads {
			got.Threads[k].Left[2], got.Threads[k].Frames[0].Back, got.Tso.Buffers[k][0].Value = 4+k, 5+k, 6+k
		}
		for k, th := range got.Threads {
			if th.Left[2] != 4+k || th.Frames[0].Back != 5+k || got.Tso.Buffers[k][0].Value != 6+k {
				t.Error(a, k, got)
			}
		}
	}
	if !slices.Equal(left, []int{1, 0, 1}) || frames[0].Back != 0 || b[0].Value != 5 {
		t.Error(left, frames, b)
	}
}

// P1: every call ends, and none panics, at arguments of all kinds.
func TestEveryCallEnds(t *testing.T) {
	numbers := []int{least, -1, 0, 1, 2, 3, 8, 9, 10000, 10001, most}
	all := wrong()
	all["right"] = at()
	all["the greatest"] = greatest()
	for name, w := range all {
		was := told(w)
		right := step.Right(w)
		for _, n := range numbers {
			for _, kind := range numbers {
				a := api.Act{Kind: kind, Thread: n}
				got, done, e := sched.Do(w, a)
				if (e == api.OK) != right || done && e != api.OK || step.Right(got) != right {
					t.Errorf("%s: %v: %v, %v, %v", name, a, got, done, e)
				}
			}
			if got, many, e := sched.Rounds(w, n); (e == api.OK) != (right && n >= 0 && n <= 10000) || many < 0 || many > max(n, 0) || e != api.OK && !empty(got) {
				t.Errorf("%s: %v, %d rounds of %d, %v", name, got, many, n, e)
			}
		}
		if told(w) != was {
			t.Errorf("%s was changed: %v", name, w)
		}
	}
}

// greatest is a world in which there is as much of all as may be.
func greatest() api.World {
	w := api.World{Code: slices.Repeat([]api.Instr{{Op: api.OJump, A: 1000}}, 1000), Tso: api.Tso{Memory: words(160), Depth: 8}}
	for range 8 {
		w.Tso.Buffers = append(w.Tso.Buffers, slices.Repeat([]api.Put{{At: 159, Value: most}}, 8))
		w.Threads = append(w.Threads, api.Thread{Pc: 1000, Left: slices.Repeat([]int{8}, 8), Frames: make([]api.Frame, 6)})
	}
	return w
}
