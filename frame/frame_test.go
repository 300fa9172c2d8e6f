package frame_test

import (
	"math"
	"slices"
	"strconv"
	"testing"

	"respite/api"
	"respite/frame"
)

const (
	most  = math.MaxInt
	least = math.MinInt
)

// same tells whether two threads are alike: an empty list and none are.
func same(a, b api.Thread) bool {
	return a.Pc == b.Pc && a.Regs == b.Regs && slices.Equal(a.Frames, b.Frames) && a.State == b.State && a.Fault == b.Fault && slices.Equal(a.Left, b.Left)
}

// empty tells whether nothing at all is told.
func empty(t api.Thread) bool {
	return t.Pc == 0 && t.Regs == [8]int{} && t.Frames == nil && t.State == 0 && t.Fault == 0 && t.Left == nil
}

// copied is the thread with lists of its own, with as much room behind them.
func copied(t api.Thread) api.Thread {
	t.Frames = slices.Clone(t.Frames)
	t.Left = slices.Clone(t.Left)
	return t
}

// deep is a thread in so many calls, no two numbers of which are the same.
func deep(many int) api.Thread {
	t := api.Thread{Pc: 77, Regs: [8]int{-10, -11, -12, -13, -14, -15, -16, -17}, Left: []int{0, 8, 3}}
	for i := range many {
		t.Frames = append(t.Frames, api.Frame{Back: 100 + i, Kept: [4]int{10*i + 4, 10*i + 5, 10*i + 6, 10*i + 7}})
	}
	return t
}

// at is a thread in that many calls that stands at a place.
func at(pc, many int) api.Thread {
	t := deep(many)
	t.Pc = pc
	return t
}

// inState is one in two calls with that state and fault.
func inState(state int, fault api.Errno) api.Thread {
	t := deep(2)
	t.State, t.Fault = state, fault
	return t
}

// withLeft is one in two calls that waits for these still.
func withLeft(left ...int) api.Thread {
	t := deep(2)
	t.Left = left
	return t
}

// withBack is one in so many calls, of which one goes back to a place.
func withBack(many, which, back int) api.Thread {
	t := deep(many)
	t.Frames[which].Back = back
	return t
}

// wrong are threads that may not be, by what is wrong with them.
func wrong() map[string]api.Thread {
	return map[string]api.Thread{
		"at -1":                     at(-1, 2),
		"at -1, in no call":         at(-1, 0),
		"at 1001":                   at(1001, 2),
		"at 1001, in six calls":     at(1001, 6),
		"at the least place":        at(least, 1),
		"at the greatest place":     at(most, 1),
		"7 calls":                   deep(7),
		"8 calls":                   deep(8),
		"300 calls":                 deep(300),
		"back to -1, first":         withBack(3, 0, -1),
		"back to 1001, between":     withBack(3, 1, 1001),
		"back to 1001, last":        withBack(3, 2, 1001),
		"back to -1, last of six":   withBack(6, 5, -1),
		"back to -1, first of six":  withBack(6, 0, -1),
		"back to the least place":   withBack(1, 0, least),
		"back to the greatest":      withBack(1, 0, most),
		"state -1":                  inState(-1, api.OK),
		"state 3":                   inState(3, api.OK),
		"state 3, with a fault":     inState(3, api.ErrArg),
		"state -1, with a fault":    inState(-1, api.ErrArg),
		"the least state":           inState(least, api.OK),
		"the greatest state":        inState(most, api.OK),
		"runs with a fault":         inState(api.SRun, api.ErrArg),
		"runs with the last fault":  inState(api.SRun, api.ErrDiff),
		"runs with no error's":      inState(api.SRun, -1),
		"halted with a fault":       inState(api.SHalt, api.ErrDiff),
		"halted with no error's":    inState(api.SHalt, 17),
		"faulted with OK":           inState(api.SFault, api.OK),
		"faulted with -1":           inState(api.SFault, -1),
		"faulted with 17":           inState(api.SFault, 17),
		"faulted with the least":    inState(api.SFault, least),
		"faulted with the greatest": inState(api.SFault, most),
		"9 left":                    withLeft(make([]int, 9)...),
		"300 left":                  withLeft(make([]int, 300)...),
		"-1 left":                   withLeft(-1),
		"9 left of one":             withLeft(9),
		"9 left of the last":        withLeft(0, 8, 0, 8, 0, 8, 0, 9),
		"-1 left of the first":      withLeft(-1, 8, 0, 8, 0, 8, 0, 8),
		"the least left":            withLeft(1, least),
		"the most left":             withLeft(1, most, 1),
	}
}

// right are threads that may be.
func right() map[string]api.Thread {
	all := map[string]api.Thread{
		"none of it":        {},
		"empty lists":       {Frames: []api.Frame{}, Left: []int{}},
		"at 1000":           at(1000, 2),
		"at 0, in six":      at(0, 6),
		"back to 0":         withBack(3, 1, 0),
		"back to 1000":      withBack(3, 2, 1000),
		"back to 0, six":    withBack(6, 5, 0),
		"back to 1000, six": withBack(6, 0, 1000),
		"halted":            inState(api.SHalt, api.OK),
		"nothing left":      withLeft(),
		"0 left":            withLeft(0),
		"8 left of eight":   withLeft(8, 8, 8, 8, 8, 8, 8, 8),
		"left of eight":     withLeft(0, 1, 2, 3, 4, 5, 6, 7),
		"any registers":     {Regs: [8]int{least, most, -1, 0, most, least, 1001, -99}, Frames: []api.Frame{{Kept: [4]int{least, most, -1, 1001}}}},
		"room behind it":    {Frames: make([]api.Frame, 6, 90), Left: make([]int, 8, 90)},
	}
	for i := range 7 {
		all["in "+strconv.Itoa(i)+" calls"] = deep(i)
	}
	return all
}

// P6.1: Right holds for what may be, and for nothing else.
func TestRight(t *testing.T) {
	for name, th := range right() {
		if !frame.Right(th) {
			t.Errorf("%s: may be, but is not right", name)
		}
	}
	for name, th := range wrong() {
		if frame.Right(th) {
			t.Errorf("%s: may not be, but is right", name)
		}
	}
}

// P6.1: a thread stands at 0 to 1000, and goes back to 0 to 1000, whichever call it is.
func TestRightPlaces(t *testing.T) {
	for _, pc := range []int{least, -1001, -1, 0, 1, 500, 999, 1000, 1001, 1002, 2000, most} {
		may := pc >= 0 && pc <= 1000
		if frame.Right(api.Thread{Pc: pc}) != may {
			t.Error("at", pc)
		}
		for many := 1; many <= 6; many++ {
			for which := range many {
				if frame.Right(withBack(many, which, pc)) != may {
					t.Error("back to", pc, "from call", which, "of", many)
				}
			}
		}
	}
}

// P6.1: a fault is told just where the thread has faulted, and is then an error's number.
func TestRightStates(t *testing.T) {
	for _, state := range []int{least, -2, -1, 0, 1, 2, 3, 4, most} {
		for _, fault := range []int{least, -1, 0, 1, 2, 8, 15, 16, 17, 18, most} {
			may := state == 2 && fault >= 1 && fault <= 16 || (state == 0 || state == 1) && fault == 0
			if frame.Right(inState(state, api.Errno(fault))) != may {
				t.Error("state", state, "with fault", fault)
			}
		}
	}
	for fault := range 17 {
		if frame.Right(inState(api.SFault, api.Errno(fault))) != (fault != 0) {
			t.Error("faulted with", fault)
		}
	}
}

// P6.1: Left is at most 8 numbers, 0 to 8 each, wherever they stand.
func TestRightLeft(t *testing.T) {
	for many := range 12 {
		for which := range many {
			for _, n := range []int{least, -1, 0, 1, 7, 8, 9, most} {
				left := make([]int, many)
				left[which] = n
				if frame.Right(withLeft(left...)) != (many <= 8 && n >= 0 && n <= 8) {
					t.Error("left", left)
				}
			}
		}
	}
}

// P6.1: all of it must be right at once: what is right does not hide what is wrong, nor does one wrong thing another one.
func TestRightAtOnce(t *testing.T) {
	faults := []func(t *api.Thread){
		func(t *api.Thread) { t.Pc = 1001 },
		func(t *api.Thread) { t.Frames[0].Back = -1 },
		func(t *api.Thread) { t.State = 3 },
		func(t *api.Thread) { t.Fault = api.ErrDeep },
		func(t *api.Thread) { t.Left[2] = 9 },
	}
	for set := range 1 << len(faults) {
		th := deep(1)
		for i, fault := range faults {
			if set>>i&1 == 1 {
				fault(&th)
			}
		}
		if frame.Right(th) != (set == 0) {
			t.Errorf("%b: %v", set, th)
		}
	}
}

// P6.1: a call keeps where it goes back to and the registers 4 to 7, as the last frame; nothing else is changed.
func TestCall(t *testing.T) {
	for many := range 6 {
		for _, pc := range []int{0, 1, 3, 500, 998, 999} {
			for _, to := range []int{0, 1, pc, pc + 1, 10, 999, 1000} {
				th := at(pc, many)
				want := at(to, many)
				want.Frames = append(want.Frames, api.Frame{Back: pc + 1, Kept: [4]int{-14, -15, -16, -17}})
				got, e := frame.Call(th, to)
				if e != api.OK || !same(got, want) || !frame.Right(got) {
					t.Errorf("at %d, in %d calls: Call %d = %v, %v, want %v", pc, many, to, got, e, want)
				}
				if !same(th, at(pc, many)) {
					t.Errorf("Call %d changed what was handed in: %v", to, th)
				}
			}
		}
	}
}

// P6.1: the registers that are kept are any numbers, each at its own place.
func TestCallKeepsRegisters(t *testing.T) {
	th := api.Thread{Regs: [8]int{1, 2, 3, 4, least, most, 0, -1}}
	got, e := frame.Call(th, 5)
	want := api.Thread{Pc: 5, Regs: th.Regs, Frames: []api.Frame{{Back: 1, Kept: [4]int{least, most, 0, -1}}}}
	if e != api.OK || !same(got, want) {
		t.Error(got, e)
	}
}

// P6.1, P6.2: no state and nothing that is left keeps a thread from a call, or from coming back; they stay.
func TestStateStays(t *testing.T) {
	for _, th := range []api.Thread{
		inState(api.SRun, api.OK), inState(api.SHalt, api.OK), inState(api.SFault, api.ErrArg), inState(api.SFault, api.ErrDiff),
		withLeft(), withLeft(0, 0), withLeft(8, 0, 8, 0, 8, 0, 8, 1),
	} {
		away, e := frame.Call(th, 9)
		if e != api.OK || away.State != th.State || away.Fault != th.Fault || !slices.Equal(away.Left, th.Left) {
			t.Error(th, "Call", away, e)
		}
		back, e := frame.Back(th)
		if e != api.OK || back.State != th.State || back.Fault != th.Fault || !slices.Equal(back.Left, th.Left) {
			t.Error(th, "Back", back, e)
		}
	}
}

// P6.1: ErrArg of a thread that stands at 1000, and of a place that is none, with nothing beside it.
func TestCallOfWrong(t *testing.T) {
	for many := range 7 {
		for _, to := range []int{least, -1000, -1, 1001, 1002, most} {
			if got, e := frame.Call(deep(many), to); e != api.ErrArg || !empty(got) {
				t.Errorf("in %d calls: Call %d = %v, %v", many, to, got, e)
			}
		}
		for _, to := range []int{0, 1, 1000, -1, 1001} {
			if got, e := frame.Call(at(1000, many), to); e != api.ErrArg || !empty(got) {
				t.Errorf("at 1000, in %d calls: Call %d = %v, %v", many, to, got, e)
			}
		}
	}
}

// P6.1: the seventh call is too deep, with nothing beside the error.
func TestCallTooDeep(t *testing.T) {
	for _, pc := range []int{0, 3, 999} {
		for _, to := range []int{0, 10, 1000} {
			th := at(pc, 6)
			if got, e := frame.Call(th, to); e != api.ErrDeep || !empty(got) {
				t.Errorf("at %d: Call %d = %v, %v", pc, to, got, e)
			}
			if !same(th, at(pc, 6)) {
				t.Error("was changed:", th)
			}
		}
	}
	if got, e := frame.Call(at(3, 5), 10); e != api.OK || len(got.Frames) != 6 {
		t.Error("the sixth call:", got, e)
	}
}

// P6.1, P6.2: ErrArg of a thread that may not be comes ahead of all else, with nothing beside it.
func TestWrongThreads(t *testing.T) {
	for name, th := range wrong() {
		was := copied(th)
		for _, to := range []int{least, -1, 0, 10, 1000, 1001, most} {
			if got, e := frame.Call(th, to); e != api.ErrArg || !empty(got) {
				t.Errorf("%s: Call %d = %v, %v", name, to, got, e)
			}
		}
		if got, e := frame.Back(th); e != api.ErrArg || !empty(got) {
			t.Errorf("%s: Back = %v, %v", name, got, e)
		}
		if !same(th, was) {
			t.Errorf("%s: was changed", name)
		}
	}
}

// P6.2: the last frame is gone, and what it kept is there again; all else stays.
func TestBack(t *testing.T) {
	for many := 1; many <= 6; many++ {
		for _, pc := range []int{0, 77, 999, 1000} {
			for _, to := range []int{0, 1, pc, 999, 1000} {
				th := at(pc, many)
				th.Frames[many-1].Back = to
				was := copied(th)
				k := 10 * (many - 1)
				want := at(to, many-1)
				want.Regs = [8]int{-10, -11, -12, -13, k + 4, k + 5, k + 6, k + 7}
				got, e := frame.Back(th)
				if e != api.OK || !same(got, want) || !frame.Right(got) {
					t.Errorf("at %d, in %d calls: Back = %v, %v, want %v", pc, many, got, e, want)
				}
				if !same(th, was) {
					t.Error("was changed:", th)
				}
			}
		}
	}
}

// P6.2: who is in no call can't come back; nothing is told beside the error.
func TestBackOfNone(t *testing.T) {
	for _, th := range []api.Thread{{}, at(0, 0), at(1000, 0), deep(0), {Frames: []api.Frame{}}, {Frames: make([]api.Frame, 0, 6)}, {State: api.SFault, Fault: api.ErrNone}} {
		if got, e := frame.Back(th); e != api.ErrNone || !empty(got) {
			t.Errorf("%v: Back = %v, %v", th, got, e)
		}
	}
}

// P6.1, P6.2: the chapter's example.
func TestExample(t *testing.T) {
	away, e := frame.Call(api.Thread{Pc: 3}, 10)
	if e != api.OK || away.Pc != 10 {
		t.Fatal(away, e)
	}
	back, e := frame.Back(away)
	if e != api.OK || back.Pc != 4 || len(back.Frames) != 0 {
		t.Error(back, e)
	}
}

// P6.3: who comes back goes on behind the call, with 4 to 7 as they were and 0 to 3 as the call left them, whatever the registers are.
func TestThereAndBack(t *testing.T) {
	numbers := []int{0, 1, -1, least, most}
	for many := range 6 {
		for i := range 8 {
			for _, was := range numbers {
				for _, left := range numbers {
					th := deep(many)
					th.Regs[i] = was
					away, _ := frame.Call(th, 900)
					away.Pc, away.Regs[i] = 950, left
					want := deep(many)
					want.Pc, want.Regs[i] = 78, was
					if i < 4 {
						want.Regs[i] = left
					}
					if back, e := frame.Back(away); e != api.OK || !same(back, want) {
						t.Fatalf("register %d, %d and then %d: %v, %v, want %v", i, was, left, back, e, want)
					}
				}
			}
		}
	}
}

// filled are registers by a number: no other number has the same ones.
func filled(n int) [8]int {
	var regs [8]int
	for i := range regs {
		regs[i] = 100*n + i
	}
	return regs
}

// P6.3: calls in one another come back in the other order, each with its own registers and behind its own place.
func TestCallsInOneAnother(t *testing.T) {
	for many := 1; many <= 6; many++ {
		th := api.Thread{Pc: 1, Regs: filled(0)}
		for i := range many {
			away, e := frame.Call(th, 10*(i+2))
			if e != api.OK || len(away.Frames) != i+1 {
				t.Fatal(i, away, e)
			}
			th = away
			th.Pc++
			th.Regs = filled(i + 1)
		}
		for i := many - 1; i >= 0; i-- {
			back, e := frame.Back(th)
			if e != api.OK || len(back.Frames) != i {
				t.Fatal(i, back, e)
			}
			want := filled(many)
			k := filled(i)
			copy(want[4:], k[4:])
			pc := 10*(i+1) + 2
			if i == 0 {
				pc = 2
			}
			if back.Regs != want || back.Pc != pc {
				t.Errorf("%d of %d: %v, want %v at %d", i, many, back, want, pc)
			}
			th = back
		}
		if _, e := frame.Back(th); e != api.ErrNone {
			t.Error(e)
		}
	}
}

// story is a thread told as a row of calls, each whole as the thread was when it was called away.
type story []api.Thread

// P6.1 to P6.3: every row of up to ten calls and comings back, as a telling that keeps whole threads says.
func TestEveryRow(t *testing.T) {
	var goOn func(th api.Thread, outer story, n int)
	goOn = func(th api.Thread, outer story, n int) {
		if n == 10 {
			return
		}
		th.Pc, th.Regs = n+20, filled(n)
		away, e := frame.Call(th, 500+n)
		switch {
		case len(outer) == 6 && (e != api.ErrDeep || !empty(away)), len(outer) < 6 && (e != api.OK || away.Pc != 500+n || away.Regs != th.Regs):
			t.Fatal(outer, away, e)
		case e == api.OK:
			goOn(away, append(slices.Clone(outer), th), n+1)
		}
		back, e := frame.Back(th)
		if len(outer) == 0 {
			if e != api.ErrNone || !empty(back) {
				t.Fatal(back, e)
			}
			return
		}
		caller := outer[len(outer)-1]
		want := th.Regs
		copy(want[4:], caller.Regs[4:])
		if e != api.OK || back.Pc != caller.Pc+1 || back.Regs != want || !slices.Equal(back.Frames, caller.Frames) {
			t.Fatal(outer, back, e)
		}
		goOn(back, outer[:len(outer)-1], n+1)
	}
	goOn(api.Thread{}, nil, 0)
}

// scribble changes each number in a thread's lists, and writes behind them.
func scribble(th api.Thread) {
	for i := range th.Frames {
		th.Frames[i] = api.Frame{Back: -9}
	}
	for i := range th.Left {
		th.Left[i] = -9
	}
	_ = append(th.Frames, api.Frame{Back: -8})
	_ = append(th.Left, -8)
}

// R1, R4, and more: answers share no list with what was handed in, nor with each other, and nothing is written behind its lists.
func TestAnswersShareNothing(t *testing.T) {
	for name, call := range map[string]func(th api.Thread) (api.Thread, api.Errno){
		"Call": func(th api.Thread) (api.Thread, api.Errno) { return frame.Call(th, 10) },
		"Back": frame.Back,
	} {
		th := deep(3)
		th.Frames = append(make([]api.Frame, 0, 9), th.Frames...)
		th.Left = append(make([]int, 0, 9), th.Left...)
		one, e := call(th)
		two, f := call(th)
		if e != api.OK || f != api.OK || !same(one, two) {
			t.Fatalf("%s: %v, %v, and then %v, %v", name, one, e, two, f)
		}
		was := copied(one)
		scribble(two)
		if !same(one, was) || !same(th, deep(3)) {
			t.Errorf("%s: shares with another answer, or with what was handed in: %v, %v", name, one, th)
		}
		for _, f := range th.Frames[3:9] {
			if f != (api.Frame{}) {
				t.Errorf("%s: wrote behind the frames: %v", name, f)
			}
		}
		for _, n := range th.Left[3:9] {
			if n != 0 {
				t.Errorf("%s: wrote behind what is left: %v", name, n)
			}
		}
	}
}

// R4: two calls from one thread, and a call behind a coming back, leave the frames of the others as they are.
func TestCallsFromOneThread(t *testing.T) {
	base, _ := frame.Call(at(1, 2), 50)
	was := copied(base)
	base.Pc = 60
	one, _ := frame.Call(base, 70)
	base.Pc = 61
	two, _ := frame.Call(base, 70)
	if one.Frames[3].Back != 61 || two.Frames[3].Back != 62 {
		t.Error("one call's frame is the other one's:", one, two)
	}
	back, _ := frame.Back(base)
	again, _ := frame.Call(back, 90)
	if !slices.Equal(base.Frames, was.Frames) || again.Frames[2].Back != 3 {
		t.Error("changed:", base, again)
	}
}

// R3: empty lists and none count the same.
func TestEmptyLists(t *testing.T) {
	none := api.Thread{Pc: 5, Regs: filled(1)}
	some := none
	some.Frames, some.Left = []api.Frame{}, []int{}
	a, e := frame.Call(none, 8)
	b, f := frame.Call(some, 8)
	if e != api.OK || f != api.OK || !same(a, b) {
		t.Error(a, e, b, f)
	}
	a, e = frame.Back(a)
	b, f = frame.Back(b)
	if e != api.OK || f != api.OK || !same(a, b) || len(a.Frames) != 0 || len(a.Left) != 0 {
		t.Error(a, e, b, f)
	}
}

// P1: every call ends, and none panics, at arguments of all kinds; what is handed in stays.
func TestEveryCallEnds(t *testing.T) {
	threads := wrong()
	for name, th := range right() {
		threads["right: "+name] = th
	}
	for name, th := range threads {
		was := copied(th)
		for _, to := range []int{least, least + 1, -1001, -1, 0, 1, 999, 1000, 1001, most - 1, most} {
			got, e := frame.Call(th, to)
			if e != api.OK && e != api.ErrArg && e != api.ErrDeep || e == api.OK && !frame.Right(got) {
				t.Errorf("%s: Call %d = %v, %v", name, to, got, e)
			}
		}
		if got, e := frame.Back(th); e != api.OK && e != api.ErrArg && e != api.ErrNone || e == api.OK && !frame.Right(got) {
			t.Errorf("%s: Back = %v, %v", name, got, e)
		}
		if !same(th, was) {
			t.Errorf("%s: was changed", name)
		}
	}
}
