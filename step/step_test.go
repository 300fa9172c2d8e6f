package step_test

import (
	"math"
	"slices"
	"testing"

	"respite/api"
	"respite/local"
	"respite/memory"
	"respite/step"
)

const (
	most  = math.MaxInt
	least = math.MinInt
)

// me is the thread of the worlds of the tests that goes on; many is how many there are.
const (
	me   = 1
	many = 3
)

// signs are the kinds of the operands of the operations, as the table of chapter 5 has them: a register, a number, a target.
var signs = [27]string{
	api.OHalt: "", api.OSet: "rn", api.OMove: "rr", api.OPlus: "rrn", api.OMask: "rrn",
	api.OAdd: "rrr", api.OSub: "rrr", api.OAnd: "rrr", api.OXor: "rrr", api.OLess: "rrr",
	api.OJump: "t", api.OZero: "rt", api.OSome: "rt", api.OCall: "t", api.ORet: "", api.OSelf: "r",
	api.OLoad: "rrn", api.OStore: "rrn", api.OFence: "", api.OCas: "rrr", api.OXchg: "rr", api.OFetch: "rr",
	api.OBroad: "", api.OWait: "rr", api.OOwn: "rr", api.ODrop: "rr", api.OMark: "n",
}

// sameThread tells whether two threads are alike: an empty list and none are.
func sameThread(a, b api.Thread) bool {
	return a.Pc == b.Pc && a.Regs == b.Regs && slices.Equal(a.Frames, b.Frames) && a.State == b.State && a.Fault == b.Fault && slices.Equal(a.Left, b.Left)
}

// same tells whether two worlds are alike: an empty list and none are.
func same(a, b api.World) bool {
	return slices.Equal(a.Code, b.Code) && slices.Equal(a.Events, b.Events) &&
		a.Tso.Depth == b.Tso.Depth && slices.EqualFunc(a.Tso.Buffers, b.Tso.Buffers, slices.Equal[[]api.Put]) &&
		slices.Equal(a.Tso.Memory.Words, b.Tso.Memory.Words) && slices.Equal(a.Tso.Memory.Tags, b.Tso.Memory.Tags) &&
		slices.EqualFunc(a.Threads, b.Threads, sameThread)
}

// empty tells whether nothing at all is told.
func empty(w api.World) bool {
	return w.Code == nil && w.Tso.Memory.Words == nil && w.Tso.Memory.Tags == nil && w.Tso.Depth == 0 && w.Tso.Buffers == nil && w.Threads == nil && w.Events == nil
}

// copied is the world with lists of its own.
func copied(w api.World) api.World {
	w.Code, w.Events, w.Threads = slices.Clone(w.Code), slices.Clone(w.Events), slices.Clone(w.Threads)
	w.Tso.Memory.Words, w.Tso.Memory.Tags = slices.Clone(w.Tso.Memory.Words), slices.Clone(w.Tso.Memory.Tags)
	w.Tso.Buffers = slices.Clone(w.Tso.Buffers)
	for i, b := range w.Tso.Buffers {
		w.Tso.Buffers[i] = slices.Clone(b)
	}
	for i, th := range w.Threads {
		w.Threads[i].Frames, w.Threads[i].Left = slices.Clone(th.Frames), slices.Clone(th.Left)
	}
	return w
}

// at is a world in which me stands at that instruction, the third of six, no two numbers of it being the same where they need not. Places 1 to 4 are had, 5 and 6 freed, 0 and 7 never had.
func at(i api.Instr) api.World {
	return api.World{
		Code: []api.Instr{{Op: api.OSet, A: 7, B: 7}, {Op: api.OMark, A: 70}, i, {Op: api.OMark, A: 71}, {Op: api.OHalt}, {Op: api.OFence}},
		Tso: api.Tso{
			Memory:  api.Memory{Words: []int{0, 31, 32, 33, 34, 35, 36, 0}, Tags: []int{0, 1, 1, 1, 1, 2, 2, 0}},
			Depth:   3,
			Buffers: [][]api.Put{{{At: 1, Value: 41}, {At: 4, Value: 42}}, nil, {{At: 2, Value: 43}}},
		},
		Threads: []api.Thread{
			{Pc: 1, Regs: [8]int{10, 11, 12, 13, 14, 15, 16, 17}, Frames: []api.Frame{{Back: 5, Kept: [4]int{6, 7, 8, 9}}}},
			{Pc: 2, Regs: [8]int{20, 21, 22, 23, 24, 25, 26, 27}, Frames: []api.Frame{{Back: 4, Kept: [4]int{1, 2, 3, 4}}, {Back: 3, Kept: [4]int{5, 6, 7, 8}}}},
			{Pc: 4, Regs: [8]int{30, 31, 32, 33, 34, 35, 36, 37}, State: api.SHalt},
		},
		Events: []api.Event{{Kind: 50, Thread: 60, Words: [4]int{51, 52, 53, 54}}, {Kind: -1, Thread: -1}},
	}
}

// with is that world, changed.
func with(i api.Instr, change func(w *api.World, th *api.Thread)) api.World {
	w := at(i)
	change(&w, &w.Threads[me])
	return w
}

// puts are so many that wait, each for a place of its own.
func puts(n int) []api.Put {
	var b []api.Put
	for k := range n {
		b = append(b, api.Put{At: k, Value: 80 + k})
	}
	return b
}

// every are instructions of all operations, by their numbers, at each of which me can go on.
func every() []api.Instr {
	all := make([]api.Instr, len(signs))
	for op := range all {
		all[op] = filled(op)
	}
	return all
}

// filled is an instruction of that operation, of three registers, and else of numbers that may be.
func filled(op int) api.Instr {
	i := api.Instr{Op: op}
	for k, sign := range signs[op] {
		*[]*int{&i.A, &i.B, &i.C}[k] = map[rune]int{'r': 2 + k, 'n': 5, 't': 4}[sign]
	}
	return i
}

// becomes holds what Can, and then Step of me, answer against a world.
func becomes(t *testing.T, w, want api.World) {
	t.Helper()
	was := copied(w)
	if can, e := step.Can(w, me); !can || e != api.OK {
		t.Errorf("%v: can %v, %v", was, can, e)
	}
	got, e := step.Step(w, me)
	if e != api.OK || !same(got, want) || !step.Right(got) {
		t.Errorf("%v:\nsteps %v, %v,\nwant  %v", was, got, e, want)
	}
	if !same(w, was) {
		t.Errorf("%v was changed: %v", was, w)
	}
}

// changes is becomes, of a world that is as the one ahead of it, but for what is changed; me stands one more on.
func changes(t *testing.T, w api.World, change func(w *api.World, th *api.Thread)) {
	t.Helper()
	want := copied(w)
	want.Threads[me].Pc++
	change(&want, &want.Threads[me])
	becomes(t, w, want)
}

// faults is becomes, of a world that is as the one ahead of it, but that me has faulted.
func faults(t *testing.T, w api.World, why api.Errno) {
	t.Helper()
	want := copied(w)
	want.Threads[me].State, want.Threads[me].Fault = api.SFault, why
	becomes(t, w, want)
}

// waits holds that me can't go on.
func waits(t *testing.T, w api.World) {
	t.Helper()
	was := copied(w)
	if can, e := step.Can(w, me); can || e != api.OK {
		t.Errorf("%v: can %v, %v", was, can, e)
	}
	if got, e := step.Step(w, me); e != api.ErrState || !empty(got) {
		t.Errorf("%v: steps %v, %v", was, got, e)
	}
	if !same(w, was) {
		t.Errorf("%v was changed: %v", was, w)
	}
}

// goesOn holds whether me can go on.
func goesOn(t *testing.T, w api.World, want bool) {
	t.Helper()
	if !want {
		waits(t, w)
		return
	}
	if can, e := step.Can(w, me); !can || e != api.OK {
		t.Errorf("%v: can %v, %v", w, can, e)
	}
	if _, e := step.Step(w, me); e != api.OK {
		t.Errorf("%v: steps %v", w, e)
	}
}

// flushes holds what Flush answers against a world.
func flushes(t *testing.T, w api.World, thread int, want api.World) {
	t.Helper()
	was := copied(w)
	got, e := step.Flush(w, thread)
	if e != api.OK || !same(got, want) || !step.Right(got) {
		t.Errorf("%v:\nflushes %v, %v,\nwant    %v", was, got, e, want)
	}
	if !same(w, was) {
		t.Errorf("%v was changed: %v", was, w)
	}
}

// P8.3: the chapter's examples.
func TestExamples(t *testing.T) {
	w, e := step.New([]api.Instr{{Op: api.OStore}, {Op: api.OFence}}, []int{0}, api.Memory{Words: []int{0}, Tags: []int{0}}, 1)
	if e != api.OK {
		t.Fatal(w, e)
	}
	n, e := step.Step(w, 0)
	if th := n.Threads[0]; e != api.OK || th.State != api.SFault || th.Fault != api.ErrNever || th.Pc != 0 {
		t.Error(n, e)
	}
	w.Tso.Memory.Tags[0] = api.TLive
	w, _ = step.Step(w, 0)
	if _, e := step.Step(w, 0); e != api.ErrState {
		t.Error(w, e)
	}
	w, _ = step.Flush(w, 0)
	w, e = step.Step(w, 0)
	if e != api.OK || w.Threads[0].Pc != 2 || w.Threads[0].State != api.SRun {
		t.Error(w, e)
	}
}

// P8.1: a new world, of all numbers of threads, depths and lengths of code at their edges.
func TestNew(t *testing.T) {
	m := api.Memory{Words: []int{0, 5, 6}, Tags: []int{0, 1, 2}}
	for _, length := range []int{0, 1, 2, 999, 1000} {
		code := slices.Repeat([]api.Instr{{Op: api.OSet, A: 1, B: 5}}, length)
		for threads := 1; threads <= 8; threads++ {
			for depth := 0; depth <= 8; depth++ {
				want := api.World{Code: code, Tso: api.Tso{Memory: m, Depth: depth, Buffers: make([][]api.Put, threads)}}
				var starts []int
				for i := range threads {
					starts = append(starts, []int{length, 0, length / 2}[i%3])
					want.Threads = append(want.Threads, api.Thread{Pc: starts[i]})
				}
				w, e := step.New(code, starts, m, depth)
				if e != api.OK || !same(w, want) || !step.Right(w) {
					t.Errorf("%d of %d, depth %d: %v, %v", threads, length, depth, w, e)
				}
			}
		}
	}
}

// wrongCode and wrongMemory are some that may not be.
func wrongCode() map[string][]api.Instr {
	return map[string][]api.Instr{
		"1001 instructions":   slices.Repeat([]api.Instr{{Op: api.OHalt}}, 1001),
		"no operation, below": {{Op: -1}},
		"no operation, above": {{Op: api.OHalt}, {Op: 27}},
		"no register":         {{Op: api.OSet, A: 8}},
		"no number":           {{Op: api.OMark, A: api.MaxNumber + 1}},
		"no target":           {{Op: api.OJump, A: 2}},
		"no such operand":     {{Op: api.OWait, C: 1}},
	}
}

func wrongMemory() map[string]api.Memory {
	return map[string]api.Memory{
		"no words":      {},
		"161 words":     {Words: make([]int, 161), Tags: make([]int, 161)},
		"no tags":       {Words: []int{0}},
		"a tag of 3":    {Words: []int{0}, Tags: []int{3}},
		"never, yet 1":  {Words: []int{1}, Tags: []int{0}},
		"too many tags": {Words: []int{0}, Tags: []int{1, 1}},
	}
}

// P8.1: New's errors, and which comes first.
func TestNewErrors(t *testing.T) {
	code, m := []api.Instr{{Op: api.OHalt}, {Op: api.OHalt}}, api.Memory{Words: []int{0}, Tags: []int{1}}
	refuses := func(code []api.Instr, starts []int, m api.Memory, depth int, want api.Errno) {
		t.Helper()
		if w, e := step.New(code, starts, m, depth); e != want || !empty(w) {
			t.Errorf("%d instructions, %v, %v, %d: %v, %v, want %v", len(code), starts, m, depth, w, e, want)
		}
	}
	sizes := [][]int{nil, {}, make([]int, 9), make([]int, 300), slices.Repeat([]int{-1}, 9)}
	depths := []int{least, -1, 9, 10, most}
	nowhere := [][]int{{-1}, {3}, {least}, {most}, {0, 3}, {2, 0, 1, 2, 0, 1, 2, -1}, {3, 0}}
	everything := append(slices.Concat(sizes, nowhere), []int{0}, []int{2, 2})
	for _, starts := range everything {
		for _, depth := range append([]int{0, 3, 8}, depths...) {
			for _, c := range wrongCode() {
				refuses(c, starts, m, depth, api.ErrArg)
				refuses(c, starts, api.Memory{}, depth, api.ErrArg)
			}
			for _, wrong := range wrongMemory() {
				refuses(code, starts, wrong, depth, api.ErrArg)
			}
		}
		for _, depth := range depths {
			refuses(code, starts, m, depth, api.ErrSize)
		}
	}
	for _, depth := range []int{0, 3, 8} {
		for _, starts := range sizes {
			refuses(code, starts, m, depth, api.ErrSize)
		}
		for _, starts := range nowhere {
			refuses(code, starts, m, depth, api.ErrRange)
		}
	}
	refuses(nil, []int{1}, m, 0, api.ErrRange)
}

// right are worlds that may be, by what is at an edge.
func right() map[string]api.World {
	change := func(change func(w *api.World, th *api.Thread)) api.World {
		return with(api.Instr{Op: api.OWait}, change)
	}
	all := map[string]api.World{
		"as it is":       at(api.Instr{}),
		"no code":        change(func(w *api.World, th *api.Thread) { w.Code = nil }),
		"no events":      change(func(w *api.World, th *api.Thread) { w.Events = nil }),
		"any event":      change(func(w *api.World, th *api.Thread) { w.Events = []api.Event{{Kind: least, Thread: most}} }),
		"at the end":     change(func(w *api.World, th *api.Thread) { th.Pc = len(w.Code) }),
		"at 1000":        change(func(w *api.World, th *api.Thread) { th.Pc = 1000 }),
		"6 calls":        change(func(w *api.World, th *api.Thread) { th.Frames = make([]api.Frame, 6) }),
		"faulted":        change(func(w *api.World, th *api.Thread) { th.State, th.Fault = api.SFault, api.ErrDiff }),
		"nothing left":   change(func(w *api.World, th *api.Thread) { th.Left = []int{} }),
		"zeros left":     change(func(w *api.World, th *api.Thread) { th.Left = make([]int, many) }),
		"8 left":         change(func(w *api.World, th *api.Thread) { th.Left = []int{8, 8, 8} }),
		"halted, 1 left": change(func(w *api.World, th *api.Thread) { th.State, th.Left = api.SHalt, []int{0, 0, 1} }),
		"all left":       change(func(w *api.World, th *api.Thread) { w.Threads[0].Left, th.Left = []int{1, 2, 3}, []int{0, 0, 0} }),
		"puts for words that nobody has": change(func(w *api.World, th *api.Thread) {
			w.Tso.Buffers[0] = []api.Put{{At: 0, Value: 1}, {At: 5}, {At: 7}}
		}),
	}
	one := api.World{Tso: api.Tso{Memory: api.Memory{Words: []int{0}, Tags: []int{0}}, Buffers: make([][]api.Put, 1)}, Threads: make([]api.Thread, 1)}
	all["the least"] = one
	eight := api.World{Code: slices.Repeat([]api.Instr{{Op: api.OJump, A: 1000}}, 1000), Tso: api.Tso{Memory: api.Memory{Words: make([]int, 160), Tags: slices.Repeat([]int{1}, 160)}, Depth: 8}}
	for range 8 {
		eight.Tso.Buffers = append(eight.Tso.Buffers, puts(8))
		eight.Threads = append(eight.Threads, api.Thread{Pc: 1000, Left: slices.Repeat([]int{8}, 8), Frames: make([]api.Frame, 6)})
	}
	all["the greatest"] = eight
	return all
}

// wrong are worlds that may not be, by what is wrong with them.
func wrong() map[string]api.World {
	change := func(change func(w *api.World, th *api.Thread)) api.World {
		return with(api.Instr{Op: api.OFence}, change)
	}
	all := map[string]api.World{
		"nothing at all": {},
		"depth -1":       change(func(w *api.World, th *api.Thread) { w.Tso.Depth = -1 }),
		"depth 9":        change(func(w *api.World, th *api.Thread) { w.Tso.Depth = 9 }),
		"no buffers":     change(func(w *api.World, th *api.Thread) { w.Tso.Buffers, w.Threads = nil, nil }),
		"9 threads": change(func(w *api.World, th *api.Thread) {
			w.Tso.Buffers, w.Threads = make([][]api.Put, 9), make([]api.Thread, 9)
		}),
		"4 puts of 3":        change(func(w *api.World, th *api.Thread) { w.Tso.Buffers[0] = puts(4) }),
		"a put for place -1": change(func(w *api.World, th *api.Thread) { w.Tso.Buffers[2][0].At = -1 }),
		"a put for place 8":  change(func(w *api.World, th *api.Thread) { w.Tso.Buffers[0][1].At = 8 }),
		"no threads":         change(func(w *api.World, th *api.Thread) { w.Threads = nil }),
		"a thread too few":   change(func(w *api.World, th *api.Thread) { w.Threads = w.Threads[:2] }),
		"a thread too many":  change(func(w *api.World, th *api.Thread) { w.Threads = append(w.Threads, api.Thread{}) }),
		"a buffer too few":   change(func(w *api.World, th *api.Thread) { w.Tso.Buffers = w.Tso.Buffers[:2] }),
		"a buffer too many":  change(func(w *api.World, th *api.Thread) { w.Tso.Buffers = append(w.Tso.Buffers, nil) }),
		"at -1":              change(func(w *api.World, th *api.Thread) { th.Pc = -1 }),
		"at 1001":            change(func(w *api.World, th *api.Thread) { th.Pc = 1001 }),
		"the last at 1001":   change(func(w *api.World, th *api.Thread) { w.Threads[2].Pc = 1001 }),
		"7 calls":            change(func(w *api.World, th *api.Thread) { th.Frames = make([]api.Frame, 7) }),
		"state 3":            change(func(w *api.World, th *api.Thread) { th.State = 3 }),
		"runs with a fault":  change(func(w *api.World, th *api.Thread) { th.Fault = api.ErrArg }),
		"faulted with OK":    change(func(w *api.World, th *api.Thread) { w.Threads[0].State = api.SFault }),
		"1 number left":      change(func(w *api.World, th *api.Thread) { th.Left = []int{0} }),
		"2 numbers left":     change(func(w *api.World, th *api.Thread) { w.Threads[2].Left = []int{1, 1} }),
		"4 numbers left":     change(func(w *api.World, th *api.Thread) { w.Threads[0].Left = make([]int, 4) }),
		"8 numbers left":     change(func(w *api.World, th *api.Thread) { th.Left = make([]int, 8) }),
		"9 left of one":      change(func(w *api.World, th *api.Thread) { th.Left = []int{0, 0, 9} }),
		"-1 left of one":     change(func(w *api.World, th *api.Thread) { th.Left = []int{-1, 0, 0} }),
	}
	for name, code := range wrongCode() {
		all["code: "+name] = change(func(w *api.World, th *api.Thread) { w.Code = code })
	}
	for name, m := range wrongMemory() {
		all["memory: "+name] = change(func(w *api.World, th *api.Thread) { w.Tso.Memory, w.Tso.Buffers = m, make([][]api.Put, many) })
	}
	return all
}

// refuse holds that all calls but New answer that error, and nothing beside it.
func refuse(t *testing.T, name string, w api.World, thread int, want api.Errno) {
	t.Helper()
	was := copied(w)
	if can, e := step.Can(w, thread); can || e != want {
		t.Errorf("%s: thread %d: Can %v, %v, want %v", name, thread, can, e, want)
	}
	if got, e := step.Step(w, thread); !empty(got) || e != want {
		t.Errorf("%s: thread %d: Step %v, %v, want %v", name, thread, got, e, want)
	}
	if got, e := step.Flush(w, thread); !empty(got) || e != want {
		t.Errorf("%s: thread %d: Flush %v, %v, want %v", name, thread, got, e, want)
	}
	if !same(w, was) {
		t.Errorf("%s was changed: %v", name, w)
	}
}

// P8.1: Right, ErrArg and ErrRange, in this order, and ahead of what Step and Flush tell of the thread.
func TestWhichMayBe(t *testing.T) {
	threads := []int{least, -1, 0, 1, 2, 3, 7, 8, 9, most}
	for name, w := range wrong() {
		if step.Right(w) {
			t.Errorf("%s: may be", name)
		}
		for _, thread := range threads {
			refuse(t, name, w, thread, api.ErrArg)
		}
	}
	for name, w := range right() {
		if !step.Right(w) {
			t.Errorf("%s: may not be", name)
		}
		for _, thread := range threads {
			if thread < 0 || thread >= len(w.Threads) {
				refuse(t, name, w, thread, api.ErrRange)
			} else if _, e := step.Can(w, thread); e != api.OK {
				t.Errorf("%s: thread %d: %v", name, thread, e)
			}
		}
	}
}

// P8.2: only who runs can go on, whatever the instruction is, or if there is none.
func TestWhoRuns(t *testing.T) {
	for _, i := range every() {
		goesOn(t, at(i), true)
		waits(t, with(i, func(w *api.World, th *api.Thread) { th.State = api.SHalt }))
		waits(t, with(i, func(w *api.World, th *api.Thread) { th.State, th.Fault = api.SFault, api.ErrArg }))
		for _, pc := range []int{6, 7, 999, 1000} {
			goesOn(t, with(i, func(w *api.World, th *api.Thread) { th.Pc = pc }), true)
			waits(t, with(i, func(w *api.World, th *api.Thread) { th.Pc, th.State = pc, api.SHalt }))
			waits(t, with(i, func(w *api.World, th *api.Thread) { th.Pc, th.State, th.Fault = pc, api.SFault, api.ErrRange }))
		}
	}
}

// P8.2: who has puts that wait: at no depth, at any, and with room for more or not; puts of others do not matter.
func TestCanWithPuts(t *testing.T) {
	never := []int{api.OFence, api.OCas, api.OXchg, api.OFetch, api.OWait}
	for _, i := range every() {
		for depth := range 9 {
			for n := range depth + 1 {
				can := true
				switch {
				case i.Op == api.OStore:
					can = depth == 0 || n < depth
				case slices.Contains(never, i.Op):
					can = n == 0
				}
				for others := range depth + 1 {
					goesOn(t, with(i, func(w *api.World, th *api.Thread) {
						w.Tso.Depth, w.Tso.Buffers = depth, [][]api.Put{puts(others), puts(n), puts(depth)}
					}), can)
				}
			}
		}
	}
}

// P8.2: a full buffer keeps a store back, and puts that wait what is locked, even at a word that can't be had.
func TestWaitsAheadOfAFault(t *testing.T) {
	for _, place := range []int{least, -1, 0, 5, 8, most} {
		change := func(w *api.World, th *api.Thread) { th.Regs[3], w.Tso.Buffers[me] = place, puts(3) }
		waits(t, with(api.Instr{Op: api.OStore, A: 2, B: 3}, change))
		for _, op := range []int{api.OCas, api.OXchg, api.OFetch, api.OWait} {
			waits(t, with(filled(op), change))
		}
	}
}

// P8.2: what is left keeps back who is at broad, and nobody else.
func TestCanWithLeft(t *testing.T) {
	for _, i := range every() {
		for k := range many {
			for _, n := range []int{1, 2, 8} {
				w := with(i, func(w *api.World, th *api.Thread) { th.Left = make([]int, many); th.Left[k] = n })
				goesOn(t, w, i.Op != api.OBroad)
			}
		}
		for _, left := range [][]int{nil, {}, {0, 0, 0}} {
			goesOn(t, with(i, func(w *api.World, th *api.Thread) { th.Left = left }), true)
		}
		goesOn(t, with(i, func(w *api.World, th *api.Thread) { w.Threads[0].Left = []int{1, 1, 1} }), true)
	}
}

// P8.2, P8.3: wait waits while the word is the one that it was; where it is another one, or can't be loaded, it does nothing.
func TestWait(t *testing.T) {
	wait := api.Instr{Op: api.OWait, A: 5, B: 6}
	for place := 1; place <= 4; place++ {
		for _, v := range []int{0, 30 + place, 31 + place, 41, 42, 43, -1, least, most} {
			w := with(wait, func(w *api.World, th *api.Thread) { th.Regs[5], th.Regs[6] = v, place })
			if v == 30+place {
				waits(t, w)
			} else {
				changes(t, w, func(w *api.World, th *api.Thread) {})
			}
			w.Tso.Buffers[me] = []api.Put{{At: place, Value: v + 1}}
			waits(t, w)
		}
	}
	for _, place := range []int{least, -1, 0, 5, 6, 7, 8, 160, most} {
		for _, v := range []int{0, 35, 36} {
			w := with(wait, func(w *api.World, th *api.Thread) { th.Regs[5], th.Regs[6] = v, place })
			changes(t, w, func(w *api.World, th *api.Thread) {})
			w.Tso.Buffers[me] = puts(1)
			waits(t, w)
		}
	}
}

// P8.3: where no instruction is, the thread faults with ErrRange, at the end of the code and far behind it.
func TestNoInstruction(t *testing.T) {
	for _, length := range []int{0, 1, 6, 999, 1000} {
		for _, pc := range []int{length, length + 1, 999, 1000} {
			if pc < length || pc > 1000 {
				continue
			}
			faults(t, with(api.Instr{}, func(w *api.World, th *api.Thread) {
				w.Code, th.Pc = slices.Repeat([]api.Instr{{Op: api.OHalt}}, length), pc
			}), api.ErrRange)
		}
	}
}

// P8.3: local instructions are done as local.Apply does them, with the thread's number; and fault with its errors.
func TestLocal(t *testing.T) {
	for op := api.OSet; op <= api.OSelf; op++ {
		for _, v := range []int{0, 1, least, most} {
			w := with(filled(op), func(w *api.World, th *api.Thread) { th.Regs[2] = v; th.Regs[3] = v + 1 })
			th, e := local.Apply(w.Threads[me], me, filled(op))
			if e != api.OK {
				t.Fatal(op, e)
			}
			want := copied(w)
			want.Threads[me] = th
			becomes(t, w, want)
			for _, left := range [][]int{{0, 0, 0}, {0, 1, 0}} {
				w.Threads[me].Left = left
				faults(t, w, api.ErrState)
			}
		}
	}
	faults(t, with(api.Instr{Op: api.OCall}, func(w *api.World, th *api.Thread) { th.Frames = make([]api.Frame, 6) }), api.ErrDeep)
	faults(t, with(api.Instr{Op: api.ORet}, func(w *api.World, th *api.Thread) { th.Frames = nil }), api.ErrNone)
}

// P8.3: some local instructions by hand, so that nothing hangs on how local does them; at the first place and at the last one.
func TestLocalByHand(t *testing.T) {
	becomes := func(i api.Instr, change func(th *api.Thread)) {
		t.Helper()
		changes(t, at(i), func(w *api.World, th *api.Thread) { change(th) })
	}
	becomes(api.Instr{Op: api.OSet, A: 3, B: -9}, func(th *api.Thread) { th.Regs[3] = -9 })
	becomes(api.Instr{Op: api.OSub, A: 3, B: 7, C: 1}, func(th *api.Thread) { th.Regs[3] = 27 - 21 })
	becomes(api.Instr{Op: api.OJump, A: 6}, func(th *api.Thread) { th.Pc = 6 })
	becomes(api.Instr{Op: api.OZero, A: 6}, func(th *api.Thread) {})
	becomes(api.Instr{Op: api.ORet}, func(th *api.Thread) {
		th.Pc, th.Frames = 3, th.Frames[:1]
		copy(th.Regs[4:], []int{5, 6, 7, 8})
	})
	becomes(api.Instr{Op: api.OCall, A: 5}, func(th *api.Thread) {
		th.Pc, th.Frames = 5, append(th.Frames, api.Frame{Back: 3, Kept: [4]int{24, 25, 26, 27}})
	})
	for self := range 8 {
		w, _ := step.New(slices.Repeat([]api.Instr{{Op: api.OSelf, A: 4}}, 1000), make([]int, 8), api.Memory{Words: []int{0}, Tags: []int{0}}, 0)
		for _, pc := range []int{0, 999} {
			w.Threads[self].Pc = pc
			got, e := step.Step(w, self)
			want := copied(w)
			want.Threads[self] = api.Thread{Pc: pc + 1, Regs: [8]int{4: self}}
			if e != api.OK || !same(got, want) {
				t.Errorf("thread %d: %v, %v", self, got.Threads, e)
			}
		}
	}
}

// P8.3: halt halts where it stands, whatever waits or is left.
func TestHalt(t *testing.T) {
	for _, left := range [][]int{nil, {0, 0, 0}, {1, 2, 3}} {
		for n := range 4 {
			w := with(api.Instr{Op: api.OHalt}, func(w *api.World, th *api.Thread) { th.Left, w.Tso.Buffers[me] = left, puts(n) })
			want := copied(w)
			want.Threads[me].State = api.SHalt
			becomes(t, w, want)
		}
	}
}

// P8.3: load takes the word at R[B] and C, or the newest of the own puts for it; never what waits of others.
func TestLoad(t *testing.T) {
	for place := 1; place <= 4; place++ {
		for _, c := range []int{0, 1, -1, 7, api.MaxNumber, -api.MaxNumber} {
			for _, r := range []int{0, 3, 6, 7} {
				load := api.Instr{Op: api.OLoad, A: r, B: 6, C: c}
				w := with(load, func(w *api.World, th *api.Thread) { th.Regs[6] = place - c })
				changes(t, w, func(w *api.World, th *api.Thread) { th.Regs[r] = 30 + place })
				w.Tso.Buffers[me] = []api.Put{{At: place, Value: 98}, {At: place, Value: 99}, {At: place%4 + 1, Value: 97}}
				w.Threads[me].Left = []int{0, 2, 1}
				changes(t, w, func(w *api.World, th *api.Thread) { th.Regs[r] = 99 })
			}
		}
	}
}

// P8.3: store has a put wait as the last one, or stores at once, where nothing can wait.
func TestStore(t *testing.T) {
	for place := 1; place <= 4; place++ {
		for _, c := range []int{0, 1, -1, 7, api.MaxNumber, -api.MaxNumber} {
			store := api.Instr{Op: api.OStore, A: 2, B: 5, C: c}
			for n := range 3 {
				w := with(store, func(w *api.World, th *api.Thread) {
					th.Regs[5], w.Tso.Buffers[me], th.Left = place-c, puts(n), []int{0, 1, 1}
				})
				changes(t, w, func(w *api.World, th *api.Thread) {
					w.Tso.Buffers[me] = append(w.Tso.Buffers[me], api.Put{At: place, Value: 22})
				})
			}
			w := with(store, func(w *api.World, th *api.Thread) {
				th.Regs[5], w.Tso.Depth, w.Tso.Buffers = place-c, 0, make([][]api.Put, many)
			})
			changes(t, w, func(w *api.World, th *api.Thread) { w.Tso.Memory.Words[place] = 22 })
			w.Code[2].A, w.Threads[me].Regs[5] = 5, place-c
			changes(t, w, func(w *api.World, th *api.Thread) { w.Tso.Memory.Words[place] = place - c })
		}
	}
}

// P8.3: what is locked changes the word at R[B], and takes it as it was.
func TestLocked(t *testing.T) {
	for place := 1; place <= 4; place++ {
		word := 30 + place
		for _, a := range []int{word, word + 1, 0, -1, least, most} {
			set := func(w *api.World, th *api.Thread) { th.Regs[1], th.Regs[6], th.Left = a, place, []int{1, 0, 1} }
			takes := func(i api.Instr, v int) {
				t.Helper()
				changes(t, with(i, set), func(w *api.World, th *api.Thread) { th.Regs[1], w.Tso.Memory.Words[place] = word, v })
			}
			swapped := word
			if a == word {
				swapped = 23
			}
			takes(api.Instr{Op: api.OCas, A: 1, B: 6, C: 3}, swapped)
			takes(api.Instr{Op: api.OXchg, A: 1, B: 6}, a)
			takes(api.Instr{Op: api.OFetch, A: 1, B: 6}, word+a)
		}
	}
	// All of one register: it is the place, what is added, and what is taken.
	two := func(w *api.World, th *api.Thread) { th.Regs[4] = 2 }
	changes(t, with(api.Instr{Op: api.OFetch, A: 4, B: 4}, two), func(w *api.World, th *api.Thread) { th.Regs[4], w.Tso.Memory.Words[2] = 32, 34 })
	changes(t, with(api.Instr{Op: api.OXchg, A: 4, B: 4}, two), func(w *api.World, th *api.Thread) { th.Regs[4], w.Tso.Memory.Words[2] = 32, 2 })
	changes(t, with(api.Instr{Op: api.OCas, A: 4, B: 4, C: 4}, two), func(w *api.World, th *api.Thread) { th.Regs[4] = 32 })
}

// P8.3: a thread that loads, stores, or locks where nobody has a word faults, and nothing else is changed.
func TestFaultsAtWords(t *testing.T) {
	why := map[int]api.Errno{
		0: api.ErrNever, 7: api.ErrNever, 5: api.ErrFreed, 6: api.ErrFreed,
		-1: api.ErrRange, 8: api.ErrRange, 159: api.ErrRange, 160: api.ErrRange, least: api.ErrRange, most: api.ErrRange,
	}
	for place, e := range why {
		for _, depth := range []int{0, 1, 8} {
			set := func(w *api.World, th *api.Thread) {
				th.Regs[6], w.Tso.Depth, w.Tso.Buffers = place, depth, make([][]api.Put, many)
			}
			for _, op := range []int{api.OCas, api.OXchg, api.OFetch} {
				faults(t, with(api.Instr{Op: op, A: 1, B: 6}, set), e)
			}
			for _, op := range []int{api.OLoad, api.OStore} {
				for _, c := range []int{0, 3, -3, api.MaxNumber, -api.MaxNumber} {
					w := with(api.Instr{Op: op, A: 1, B: 6, C: c}, set)
					w.Threads[me].Regs[6] -= c
					faults(t, w, e)
				}
			}
		}
	}
	// The own put for a word that was given back is not seen.
	for place, e := range map[int]api.Errno{0: api.ErrNever, 5: api.ErrFreed} {
		own := with(api.Instr{Op: api.OLoad, A: 1, B: 6}, func(w *api.World, th *api.Thread) {
			th.Regs[6], w.Tso.Buffers[me] = place, []api.Put{{At: place, Value: 9}}
		})
		faults(t, own, e)
	}
}

// P8.3: own and drop mark R[B] words from R[A] on, whatever waits.
func TestOwnAndDrop(t *testing.T) {
	for op, tag := range map[int]int{api.OOwn: api.TLive, api.ODrop: api.TFreed} {
		for from := -1; from <= 9; from++ {
			for n := -1; n <= 9; n++ {
				w := with(api.Instr{Op: op, A: 4, B: 3}, func(w *api.World, th *api.Thread) {
					th.Regs[4], th.Regs[3], w.Tso.Buffers[me], th.Left = from, n, puts(3), []int{0, 3, 0}
				})
				m, e := memory.Mark(w.Tso.Memory, from, n, tag)
				if e != api.OK {
					faults(t, w, e)
					continue
				}
				changes(t, w, func(w *api.World, th *api.Thread) { w.Tso.Memory = m })
			}
		}
	}
}

// P8.3: some of own and drop by hand.
func TestOwnAndDropByHand(t *testing.T) {
	marks := func(op, from, n int) api.World {
		return with(api.Instr{Op: op, A: 1, B: 2}, func(w *api.World, th *api.Thread) { th.Regs[1], th.Regs[2] = from, n })
	}
	changes(t, marks(api.OOwn, 5, 3), func(w *api.World, th *api.Thread) { copy(w.Tso.Memory.Tags[5:], []int{1, 1, 1}) })
	changes(t, marks(api.OOwn, 0, 1), func(w *api.World, th *api.Thread) { w.Tso.Memory.Tags[0] = 1 })
	changes(t, marks(api.ODrop, 1, 4), func(w *api.World, th *api.Thread) { copy(w.Tso.Memory.Tags[1:], []int{2, 2, 2, 2}) })
	changes(t, marks(api.ODrop, 4, 1), func(w *api.World, th *api.Thread) { w.Tso.Memory.Tags[4] = 2 })
	faults(t, marks(api.OOwn, 0, 2), api.ErrLive)
	faults(t, marks(api.ODrop, 4, 2), api.ErrFreed)
	faults(t, marks(api.ODrop, 0, 2), api.ErrNever)
	for _, op := range []int{api.OOwn, api.ODrop} {
		faults(t, marks(op, 3, 0), api.ErrRange)
		faults(t, marks(op, 7, 2), api.ErrRange)
		faults(t, marks(op, most, most), api.ErrRange)
		faults(t, marks(op, 1, least), api.ErrRange)
	}
}

// P8.3: a mark is the last event, of the kind, the thread, and its registers 0 to 3.
func TestMark(t *testing.T) {
	for _, kind := range []int{0, 1, 7, -1, api.MaxNumber, -api.MaxNumber} {
		w := with(api.Instr{Op: api.OMark, A: kind}, func(w *api.World, th *api.Thread) { th.Left, w.Tso.Buffers[me] = []int{0, 1, 0}, puts(3) })
		event := api.Event{Kind: kind, Thread: me, Words: [4]int{20, 21, 22, 23}}
		changes(t, w, func(w *api.World, th *api.Thread) { w.Events = append(w.Events, event) })
		w.Events = nil
		changes(t, w, func(w *api.World, th *api.Thread) { w.Events = []api.Event{event} })
	}
}

// P8.3: a fence does nothing, whatever waits of others.
func TestFence(t *testing.T) {
	for _, left := range [][]int{nil, {0, 0, 0}, {1, 0, 1}} {
		w := with(api.Instr{Op: api.OFence}, func(w *api.World, th *api.Thread) { th.Left = left })
		changes(t, w, func(w *api.World, th *api.Thread) {})
	}
}

// P8.3: broad notes how many puts wait of each thread, the own ones too, and goes on behind these.
func TestBroad(t *testing.T) {
	broad := api.Instr{Op: api.OBroad}
	for a := range 4 {
		for b := range 4 {
			for c := range 4 {
				for _, left := range [][]int{nil, {}} {
					w := with(broad, func(w *api.World, th *api.Thread) {
						w.Tso.Buffers, th.Left = [][]api.Put{puts(a), puts(b), puts(c)}, left
					})
					want := copied(w)
					want.Threads[me].Left = []int{a, b, c}
					becomes(t, w, want)
					goesOn(t, want, a+b+c == 0)
				}
			}
		}
	}
	w := with(broad, func(w *api.World, th *api.Thread) { th.Left = []int{0, 0, 0} })
	changes(t, w, func(w *api.World, th *api.Thread) { th.Left = nil })
	for threads := 1; threads <= 8; threads++ {
		w, _ := step.New([]api.Instr{broad}, make([]int, threads), api.Memory{Words: make([]int, 8), Tags: make([]int, 8)}, 8)
		w.Tso.Buffers[threads-1] = puts(8)
		got, e := step.Step(w, 0)
		left := make([]int, threads)
		left[threads-1] = 8
		if e != api.OK || !slices.Equal(got.Threads[0].Left, left) || got.Threads[0].Pc != 0 {
			t.Error(threads, got, e)
		}
	}
}

// P8.3, P8.4: the way of a thread at broad: puts that come while it waits are not waited for.
func TestBroadOnItsWay(t *testing.T) {
	code := []api.Instr{{Op: api.OBroad}, {Op: api.OHalt}, {Op: api.OStore}, {Op: api.OJump, A: 2}}
	w, _ := step.New(code, []int{0, 2}, api.Memory{Words: []int{0}, Tags: []int{1}}, 4)
	do := func(what func(api.World, int) (api.World, api.Errno), thread int, left ...int) {
		t.Helper()
		n, e := what(w, thread)
		if e != api.OK || !slices.Equal(n.Threads[0].Left, left) {
			t.Fatal(n, e, left)
		}
		w = n
	}
	for range 3 {
		do(step.Step, 1)
	}
	do(step.Step, 0, 0, 2)
	for range 5 {
		do(step.Step, 1, 0, 2)
	}
	do(step.Flush, 1, 0, 1)
	if _, e := step.Step(w, 0); e != api.ErrState {
		t.Error(e)
	}
	do(step.Flush, 1, 0, 0)
	do(step.Flush, 1, 0, 0)
	do(step.Step, 0)
	if w.Threads[0].Pc != 1 || len(w.Tso.Buffers[1]) != 1 {
		t.Error(w)
	}
}

// P8.4: ErrNone, if nothing waits in the thread's own buffer.
func TestFlushOfNothing(t *testing.T) {
	for _, state := range []int{api.SRun, api.SHalt} {
		for _, left := range [][]int{nil, {0, 0, 0}, {1, 1, 1}} {
			w := with(api.Instr{}, func(w *api.World, th *api.Thread) { th.State, th.Left = state, left })
			if got, e := step.Flush(w, me); e != api.ErrNone || !empty(got) {
				t.Errorf("%v: %v, %v", w, got, e)
			}
		}
	}
}

// P8.4: the oldest put is stored, of a thread in any state, at any instruction.
func TestFlush(t *testing.T) {
	for _, i := range every() {
		for n := 1; n <= 3; n++ {
			for state, fault := range []api.Errno{api.SRun: api.OK, api.SHalt: api.OK, api.SFault: api.ErrDeep} {
				w := with(i, func(w *api.World, th *api.Thread) {
					w.Tso.Buffers[me] = []api.Put{{At: 3, Value: 91}, {At: 3, Value: 92}, {At: 1, Value: 93}}[:n]
					th.State, th.Fault = state, fault
				})
				want := copied(w)
				want.Tso.Memory.Words[3], want.Tso.Buffers[me] = 91, want.Tso.Buffers[me][1:]
				flushes(t, w, me, want)
			}
		}
	}
	w := at(api.Instr{})
	want := copied(w)
	want.Tso.Memory.Words[2], want.Tso.Buffers[2] = 43, nil
	flushes(t, w, 2, want)
	want = copied(w)
	want.Tso.Memory.Words[1], want.Tso.Buffers[0] = 41, want.Tso.Buffers[0][1:]
	flushes(t, w, 0, want)
}

// P8.4: a put that is refused is gone, the memory stays, and the thread faults, one that has halted too; the first fault is the one that it keeps.
func TestFlushThatIsRefused(t *testing.T) {
	for place, why := range map[int]api.Errno{0: api.ErrNever, 7: api.ErrNever, 5: api.ErrFreed, 6: api.ErrFreed} {
		for state, fault := range []api.Errno{api.SRun: api.OK, api.SHalt: api.OK, api.SFault: api.ErrDeep} {
			for _, left := range [][]int{nil, {0, 2, 1}} {
				w := with(api.Instr{Op: api.OBroad}, func(w *api.World, th *api.Thread) {
					w.Tso.Buffers[me] = []api.Put{{At: place, Value: 91}, {At: 1, Value: 92}}
					th.State, th.Fault, th.Left = state, fault, left
					w.Threads[0].Left = left
				})
				want := copied(w)
				want.Tso.Buffers[me] = []api.Put{{At: 1, Value: 92}}
				th := &want.Threads[me]
				if state != api.SFault {
					th.State, th.Fault = api.SFault, why
				}
				if left != nil {
					th.Left[1], want.Threads[0].Left[1] = 1, 1
				}
				flushes(t, w, me, want)
			}
		}
	}
}

// P8.4: in each Left that is not empty the number of the thread that flushes is one less, if it is above 0, and no other one.
func TestFlushTellsWhoWaits(t *testing.T) {
	for thread := range many {
		for n := range 9 {
			for state, fault := range []api.Errno{api.SRun: api.OK, api.SHalt: api.OK, api.SFault: api.ErrNever} {
				w := with(api.Instr{Op: api.OBroad}, func(w *api.World, th *api.Thread) {
					w.Tso.Buffers = [][]api.Put{puts(3)[1:], puts(3)[1:], puts(3)[1:]}
					for k := range many {
						w.Threads[k].Left = []int{8, 8, 8}
						w.Threads[k].Left[thread] = (n + k) % 9
						w.Threads[k].State, w.Threads[k].Fault = state, fault
					}
					w.Threads[(thread+n)%many].Left = nil
				})
				want := copied(w)
				want.Tso.Buffers[thread], want.Tso.Memory.Words[1] = want.Tso.Buffers[thread][1:], 81
				for k := range many {
					if left := want.Threads[k].Left; len(left) > 0 {
						left[thread] = max(0, left[thread]-1)
					}
				}
				flushes(t, w, thread, want)
			}
		}
	}
}

// dice throw the same numbers each time.
type dice uint64

// up is a number from 0 to n-1.
func (d *dice) up(n int) int {
	*d = *d*6364136223846793005 + 1442695040888963407
	return int(uint64(*d) >> 33 % uint64(n))
}

// waiting is a put that waits, with a number of its own.
type waiting struct {
	number, thread int
	put            api.Put
}

// telling is a world in which all puts wait in one row, and a thread at broad knows of each whether it waits for it.
type telling struct {
	world api.World // its buffers and what is left are not kept
	row   []waiting
	seen  int
	holds []map[int]bool // by threads: the numbers of the puts that are waited for; nil, if it waits for none
}

// from is a telling of a world in which nothing waits.
func from(w api.World) *telling {
	return &telling{world: copied(w), holds: make([]map[int]bool, len(w.Threads))}
}

// mine are the puts of a thread that wait, the oldest first.
func (x *telling) mine(thread int) []api.Put {
	var b []api.Put
	for _, p := range x.row {
		if p.thread == thread {
			b = append(b, p.put)
		}
	}
	return b
}

// whole is the world that is told.
func (x *telling) whole() api.World {
	w := copied(x.world)
	for k := range w.Threads {
		w.Tso.Buffers[k] = x.mine(k)
		if x.holds[k] == nil {
			continue
		}
		w.Threads[k].Left = make([]int, len(w.Threads))
		for _, p := range x.row {
			if x.holds[k][p.number] {
				w.Threads[k].Left[p.thread]++
			}
		}
	}
	return w
}

// sees is the word that a thread loads, and why it can't.
func (x *telling) sees(thread, place int) (int, api.Errno) {
	m := x.world.Tso.Memory
	if place < 0 || place >= len(m.Words) {
		return 0, api.ErrRange
	}
	if m.Tags[place] != api.TLive {
		return 0, []api.Errno{api.ErrNever, 0, api.ErrFreed}[m.Tags[place]]
	}
	word := m.Words[place]
	for _, p := range x.mine(thread) {
		if p.At == place {
			word = p.Value
		}
	}
	return word, api.OK
}

// can tells whether the thread can go on.
func (x *telling) can(thread int) bool {
	th := x.world.Threads[thread]
	if th.State != api.SRun || th.Pc >= len(x.world.Code) {
		return th.State == api.SRun
	}
	depth, n := x.world.Tso.Depth, len(x.mine(thread))
	switch i := x.world.Code[th.Pc]; i.Op {
	case api.OStore:
		return depth == 0 || n != depth
	case api.OFence, api.OCas, api.OXchg, api.OFetch:
		return n == 0
	case api.OBroad:
		return !slices.ContainsFunc(x.row, func(p waiting) bool { return x.holds[thread][p.number] })
	case api.OWait:
		word, e := x.sees(thread, th.Regs[i.B])
		return n == 0 && (e != api.OK || word != th.Regs[i.A])
	}
	return true
}

// faults has the thread have faulted.
func (x *telling) faults(thread int, why api.Errno) {
	x.world.Threads[thread].State, x.world.Threads[thread].Fault = api.SFault, why
}

// step has the thread go on, that can.
func (x *telling) step(thread int) {
	w := &x.world
	th := &w.Threads[thread]
	if th.Pc >= len(w.Code) {
		x.faults(thread, api.ErrRange)
		return
	}
	i := w.Code[th.Pc]
	var e api.Errno
	switch {
	case i.Op == api.OHalt:
		th.State = api.SHalt
		return
	case i.Op <= api.OSelf:
		var after api.Thread
		if after, e = local.Apply(*th, thread, i); e == api.OK {
			*th = after
			return
		}
	case i.Op == api.OBroad:
		if x.holds[thread] == nil {
			x.holds[thread] = map[int]bool{}
			for _, p := range x.row {
				x.holds[thread][p.number] = true
			}
			return
		}
		x.holds[thread] = nil
	case i.Op == api.OOwn, i.Op == api.ODrop:
		e = x.tags(th.Regs[i.A], th.Regs[i.B], i.Op == api.OOwn)
	case i.Op == api.OMark:
		w.Events = append(w.Events, api.Event{Kind: i.A, Thread: thread, Words: [4]int{th.Regs[0], th.Regs[1], th.Regs[2], th.Regs[3]}})
	case i.Op != api.OFence && i.Op != api.OWait:
		e = x.words(thread, i)
	}
	if e != api.OK {
		x.faults(thread, e)
		return
	}
	th.Pc++
}

// words has the thread load, store or lock.
func (x *telling) words(thread int, i api.Instr) api.Errno {
	th := &x.world.Threads[thread]
	place := th.Regs[i.B] + i.C
	if i.Op == api.OCas {
		place = th.Regs[i.B]
	}
	word, e := x.sees(thread, place)
	if e != api.OK {
		return e
	}
	words := x.world.Tso.Memory.Words
	switch i.Op {
	case api.OStore:
		x.row = append(x.row, waiting{number: x.seen, thread: thread, put: api.Put{At: place, Value: th.Regs[i.A]}})
		x.seen++
		if x.world.Tso.Depth == 0 {
			x.flush(thread)
		}
		return api.OK
	case api.OCas:
		if word == th.Regs[i.A] {
			words[place] = th.Regs[i.C]
		}
	case api.OXchg:
		words[place] = th.Regs[i.A]
	case api.OFetch:
		words[place] += th.Regs[i.A]
	}
	th.Regs[i.A] = word
	return api.OK
}

// tags has words be had or given back.
func (x *telling) tags(from, n int, had bool) api.Errno {
	tags := x.world.Tso.Memory.Tags
	if n < 1 || from < 0 || n > len(tags) || from+n > len(tags) {
		return api.ErrRange
	}
	for _, tag := range tags[from : from+n] {
		switch {
		case had && tag == api.TLive:
			return api.ErrLive
		case !had && tag == api.TNever:
			return api.ErrNever
		case !had && tag == api.TFreed:
			return api.ErrFreed
		}
	}
	for k := range n {
		tags[from+k] = map[bool]int{true: api.TLive, false: api.TFreed}[had]
	}
	return api.OK
}

// flush has the oldest put of the thread be stored; false, if there is none.
func (x *telling) flush(thread int) bool {
	k := slices.IndexFunc(x.row, func(p waiting) bool { return p.thread == thread })
	if k < 0 {
		return false
	}
	p := x.row[k].put
	x.row = slices.Delete(slices.Clone(x.row), k, k+1)
	switch m := x.world.Tso.Memory; m.Tags[p.At] {
	case api.TLive:
		m.Words[p.At] = p.Value
	case api.TFreed:
		if x.world.Threads[thread].State != api.SFault {
			x.faults(thread, api.ErrFreed)
		}
	}
	return true
}

// thrown is code of so many instructions, in which those come often that have to do with others.
func thrown(d *dice, length int) []api.Instr {
	code := make([]api.Instr, length)
	for k := range code {
		op := d.up(len(signs))
		if d.up(3) == 0 {
			op = []int{api.OStore, api.OStore, api.OLoad, api.OBroad, api.ODrop, api.OSet, api.OFence, api.OJump}[d.up(8)]
		}
		i := api.Instr{Op: op}
		for o, sign := range signs[op] {
			n := map[rune]int{'r': d.up(8), 'n': d.up(4) - 1, 't': d.up(length + 1)}[sign]
			*[]*int{&i.A, &i.B, &i.C}[o] = n
		}
		code[k] = i
	}
	return code
}

// drawn is a world of one to five threads, in which nothing waits, with some words that are had.
func drawn(d *dice) api.World {
	m := api.Memory{Words: make([]int, 6), Tags: make([]int, 6)}
	for k := range m.Tags {
		m.Tags[k] = []int{api.TNever, api.TLive, api.TLive, api.TLive, api.TLive, api.TLive, api.TFreed}[d.up(7)]
		m.Words[k] = m.Tags[k] * d.up(3)
	}
	length := 1 + d.up(20)
	starts := make([]int, 1+d.up(5))
	for k := range starts {
		starts[k] = d.up(length)
	}
	w, _ := step.New(thrown(d, length), starts, m, d.up(4))
	for k := range w.Threads {
		for r := range 8 {
			w.Threads[k].Regs[r] = d.up(7) - d.up(2)
		}
	}
	return w
}

// holdsOut tells what P8.5 says of a world and the one behind a thread's step: no other thread is another one, and what was marked stays.
func holdsOut(before, after api.World, thread int) bool {
	for k := range before.Threads {
		if k != thread && !sameThread(before.Threads[k], after.Threads[k]) {
			return false
		}
	}
	n := len(before.Events)
	return len(after.Events) >= n && slices.Equal(after.Events[:n], before.Events)
}

// P8.1 to P8.5: whatever a script does, worlds go on as a telling says that keeps one row of all that waits.
func TestAllWorlds(t *testing.T) {
	d := dice(8)
	faulted, done := map[api.Errno]int{}, [27]int{}
	for range 6000 {
		w := drawn(&d)
		x := from(w)
		for range 10 + d.up(50) {
			thread := d.up(len(w.Threads))
			can, e := step.Can(w, thread)
			if e != api.OK || can != x.can(thread) {
				t.Fatalf("%v: thread %d can %v, %v", w, thread, can, e)
			}
			was, before := copied(w), w
			if d.up(4) == 0 {
				got, e := step.Flush(w, thread)
				if any := x.flush(thread); any != (e == api.OK) || !any && e != api.ErrNone {
					t.Fatalf("%v: thread %d: %v", w, thread, e)
				}
				if e == api.OK {
					w = got
				}
			} else if got, e := step.Step(w, thread); !can && e != api.ErrState || can && e != api.OK {
				t.Fatalf("%v: thread %d: %v", w, thread, e)
			} else if can {
				if pc := w.Threads[thread].Pc; pc < len(w.Code) {
					done[w.Code[pc].Op]++
				}
				x.step(thread)
				if w = got; !holdsOut(before, w, thread) {
					t.Fatalf("%v: thread %d: %v", before, thread, w)
				}
				faulted[w.Threads[thread].Fault]++
			}
			if !same(before, was) || !same(w, x.whole()) || !step.Right(w) {
				t.Fatalf("%v:\nthread %d: %v,\nwant %v", was, thread, w, x.whole())
			}
		}
	}
	// All operations and faults have come.
	for op, n := range done {
		if n == 0 {
			t.Error("never done:", op)
		}
	}
	for _, why := range []api.Errno{api.OK, api.ErrRange, api.ErrNever, api.ErrFreed, api.ErrLive, api.ErrNone, api.ErrDeep} {
		if faulted[why] == 0 {
			t.Error("never told:", why)
		}
	}
}

// P8.5: who has halted or faulted never goes on, whatever others do, and whatever of its own is flushed.
func TestNeverAgain(t *testing.T) {
	d := dice(9)
	for range 400 {
		w := drawn(&d)
		for range 60 {
			thread := d.up(len(w.Threads))
			next, e := step.Step(w, thread)
			if d.up(3) == 0 {
				next, e = step.Flush(w, thread)
			}
			if e != api.OK {
				continue
			}
			for k, th := range w.Threads {
				after := next.Threads[k]
				if th.State == api.SRun {
					continue
				}
				if can, _ := step.Can(next, k); can || after.State == api.SRun || after.Pc != th.Pc || after.Regs != th.Regs {
					t.Fatalf("%v: thread %d: %v", w, k, next)
				}
				if th.State == api.SFault && after.Fault != th.Fault {
					t.Fatalf("%v: thread %d: %v", w, k, next)
				}
			}
			w = next
		}
	}
}

// P8.5: two threads that each store a word, and load the other's: both may miss it, but not behind broad, or a fence.
func TestBothMayMiss(t *testing.T) {
	between := map[string][]api.Instr{"nothing": {{Op: api.OSet, A: 7}}, "a fence": {{Op: api.OFence}}, "broad": {{Op: api.OBroad}}}
	for name, middle := range between {
		var code []api.Instr
		var starts []int
		for k := range 2 {
			starts = append(starts, len(code))
			code = append(code, api.Instr{Op: api.OSet, A: 0, B: 1}, api.Instr{Op: api.OStore, A: 0, B: 7, C: k})
			code = append(code, middle...)
			code = append(code, api.Instr{Op: api.OLoad, A: 1, B: 7, C: 1 - k}, api.Instr{Op: api.OHalt})
		}
		w, _ := step.New(code, starts, api.Memory{Words: []int{0, 0}, Tags: []int{1, 1}}, 1)
		missed, ended := false, 0
		var goOn func(w api.World)
		goOn = func(w api.World) {
			stuck := true
			for k := range 2 {
				for _, does := range []func(api.World, int) (api.World, api.Errno){step.Step, step.Flush} {
					if next, e := does(w, k); e == api.OK {
						stuck = false
						goOn(next)
					}
				}
			}
			if stuck {
				ended++
				missed = missed || w.Threads[0].Regs[1]+w.Threads[1].Regs[1] == 0
				if w.Threads[0].State != api.SHalt || w.Threads[1].State != api.SHalt {
					t.Error(name, w)
				}
			}
		}
		goOn(w)
		if ended == 0 || missed != (name == "nothing") {
			t.Error(name, ended, missed)
		}
	}
}

// scribble changes each number in a world's lists, and writes behind them.
func scribble(w api.World) {
	fill(w.Code, api.Instr{Op: -9})
	fill(w.Events, api.Event{Kind: -9})
	fill(w.Tso.Memory.Words, -9)
	fill(w.Tso.Memory.Tags, -9)
	for _, b := range w.Tso.Buffers {
		fill(b, api.Put{At: -9})
	}
	for _, th := range w.Threads {
		fill(th.Frames, api.Frame{Back: -9})
		fill(th.Left, -9)
	}
	fill(w.Threads, api.Thread{Pc: -9})
	fill(w.Tso.Buffers, []api.Put{{At: -9}})
}

// fill has all of a list, and what has room behind it, be v.
func fill[T any](list []T, v T) {
	list = list[:cap(list)]
	for k := range list {
		list[k] = v
	}
}

// roomy is the world in lists that have room behind them.
func roomy(w api.World) api.World {
	w.Code, w.Events, w.Threads = slices.Grow(w.Code, 9), slices.Grow(w.Events, 9), slices.Grow(w.Threads, 9)
	w.Tso.Memory.Words, w.Tso.Memory.Tags = slices.Grow(w.Tso.Memory.Words, 9), slices.Grow(w.Tso.Memory.Tags, 9)
	for k := range w.Threads {
		w.Tso.Buffers[k] = slices.Grow(w.Tso.Buffers[k], 9)
		w.Threads[k].Frames, w.Threads[k].Left = slices.Grow(w.Threads[k].Frames, 9), slices.Grow(w.Threads[k].Left, 9)
	}
	return w
}

// R1, R4, and more: answers share no list with what was handed in, nor with each other, and nothing is written behind its lists.
func TestAnswersShareNothing(t *testing.T) {
	all := map[string]func(w api.World) (api.World, api.Errno){
		"New":   func(w api.World) (api.World, api.Errno) { return step.New(w.Code, []int{2, 2}, w.Tso.Memory, 3) },
		"Step":  func(w api.World) (api.World, api.Errno) { return step.Step(w, me) },
		"Flush": func(w api.World) (api.World, api.Errno) { return step.Flush(w, 0) },
	}
	for _, i := range every() {
		for _, pc := range []int{2, 6} {
			for name, call := range all {
				make := func() api.World {
					return roomy(with(i, func(w *api.World, th *api.Thread) { th.Pc, w.Threads[0].Left = pc, []int{1, 0, 1} }))
				}
				w := make()
				one, e := call(w)
				two, f := call(w)
				if e != api.OK || f != api.OK || !same(one, two) {
					t.Fatalf("%s: %v: %v, %v, and then %v, %v", name, i, one, e, two, f)
				}
				was := copied(one)
				scribble(two)
				if !same(one, was) || !same(w, make()) {
					t.Errorf("%s: %v shares with another answer, or with what was handed in: %v, %v", name, i, one, w)
				}
				scribble(one)
				if w.Events = w.Events[:cap(w.Events)]; w.Events[2] != (api.Event{}) {
					t.Errorf("%s: %v wrote behind the events: %v", name, i, w.Events)
				}
			}
		}
	}
}

// R4, and more: threads that were handed in with one list in common are told with lists of their own.
func TestSharedLists(t *testing.T) {
	w := at(api.Instr{Op: api.OBroad})
	left, frames, b := []int{1, 1, 1}, make([]api.Frame, 2), puts(3)[1:]
	for k := range w.Threads {
		w.Threads[k].Left, w.Threads[k].Frames, w.Tso.Buffers[k] = left, frames, b
	}
	got, e := step.Flush(w, 0)
	if e != api.OK {
		t.Fatal(got, e)
	}
	for k, th := range got.Threads {
		if !slices.Equal(th.Left, []int{0, 1, 1}) || k > 0 && len(got.Tso.Buffers[k]) != 2 {
			t.Error(got)
		}
	}
	got.Threads[0].Left[2], got.Threads[0].Frames[0].Back, got.Tso.Buffers[1][0].Value = 7, 7, 7
	if got.Threads[1].Left[2] != 1 || got.Threads[1].Frames[0].Back != 0 || got.Tso.Buffers[2][0].Value != 81 || !slices.Equal(left, []int{1, 1, 1}) {
		t.Error(got, left)
	}
}

// P1: every call ends, and none panics, at arguments of all kinds; what is handed in stays, and an error comes alone.
func TestEveryCallEnds(t *testing.T) {
	worlds := wrong()
	for name, w := range right() {
		worlds["right: "+name] = w
	}
	numbers := []int{least, -1, 0, 1, 2, 3, 7, 8, most}
	for name, w := range worlds {
		was := copied(w)
		for _, thread := range numbers {
			for _, does := range []func(api.World, int) (api.World, api.Errno){step.Step, step.Flush} {
				if got, e := does(w, thread); e == api.OK && !step.Right(got) || e != api.OK && !empty(got) {
					t.Errorf("%s: thread %d: %v, %v", name, thread, got, e)
				}
			}
			if can, e := step.Can(w, thread); can && e != api.OK {
				t.Errorf("%s: thread %d: %v, %v", name, thread, can, e)
			}
			for _, starts := range [][]int{nil, {thread}, {0, thread, 1}, make([]int, 9)} {
				if got, e := step.New(w.Code, starts, w.Tso.Memory, w.Tso.Depth); e == api.OK && !step.Right(got) || e != api.OK && !empty(got) {
					t.Errorf("%s: New %v: %v, %v", name, starts, got, e)
				}
			}
		}
		if !same(w, was) {
			t.Errorf("%s was changed: %v", name, w)
		}
	}
}
