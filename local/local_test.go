package local_test

import (
	"math"
	"math/big"
	"slices"
	"strconv"
	"testing"

	"respite/api"
	"respite/frame"
	"respite/local"
)

const (
	most  = math.MaxInt
	least = math.MinInt
)

// numbers are those at which what is added goes round, and some between.
var numbers = []int{0, 1, -1, 2, 63, 64, -99, 0x5555555555555555, -0x5555555555555556, 1 << 62, -1 << 62, most, most - 1, least, least + 1}

// signs are the kinds of the operands of the local operations, as the table of chapter 5 has them: a register, a number, a target.
var signs = map[int]string{
	api.OSet: "rn", api.OMove: "rr", api.OPlus: "rrn", api.OMask: "rrn",
	api.OAdd: "rrr", api.OSub: "rrr", api.OAnd: "rrr", api.OXor: "rrr", api.OLess: "rrr",
	api.OJump: "t", api.OZero: "rt", api.OSome: "rt", api.OCall: "t", api.ORet: "", api.OSelf: "r",
}

// others are numbers of operations that are not local, some of which are none at all.
var others = []int{least, -2, -1, api.OHalt, api.OLoad, api.OStore, api.OFence, api.OCas, api.OXchg, api.OFetch, api.OBroad, api.OWait, api.OOwn, api.ODrop, api.OMark, 27, 28, 1000, most}

// same tells whether two threads are alike: an empty list and none are.
func same(a, b api.Thread) bool {
	return a.Pc == b.Pc && a.Regs == b.Regs && slices.Equal(a.Frames, b.Frames) && a.State == b.State && a.Fault == b.Fault && slices.Equal(a.Left, b.Left)
}

// empty tells whether nothing at all is told.
func empty(t api.Thread) bool {
	return t.Pc == 0 && t.Regs == [8]int{} && t.Frames == nil && t.State == 0 && t.Fault == 0 && t.Left == nil
}

// copied is the thread with lists of its own.
func copied(t api.Thread) api.Thread {
	t.Frames = slices.Clone(t.Frames)
	t.Left = slices.Clone(t.Left)
	return t
}

// deep is a thread at 77 in so many calls, no two numbers of which are the same.
func deep(many int) api.Thread {
	t := api.Thread{Pc: 77, Regs: [8]int{-10, -11, -12, -13, -14, -15, -16, -17}}
	for i := range many {
		t.Frames = append(t.Frames, api.Frame{Back: 100 + i, Kept: [4]int{10*i + 4, 10*i + 5, 10*i + 6, 10*i + 7}})
	}
	return t
}

// at is a thread in that many calls that stands at a place.
func at(pc, many int) api.Thread {
	t := deep(many)
	t.Pc = pc
	return t
}

// with is one in two calls that was changed.
func with(change func(t *api.Thread)) api.Thread {
	t := deep(2)
	change(&t)
	return t
}

// wrong are threads that may not be, by what is wrong with them.
func wrong() map[string]api.Thread {
	return map[string]api.Thread{
		"at -1":                  at(-1, 2),
		"at 1001":                at(1001, 2),
		"at the least place":     at(least, 0),
		"at the greatest place":  at(most, 0),
		"in 7 calls":             deep(7),
		"in 300 calls":           deep(300),
		"back to -1":             with(func(t *api.Thread) { t.Frames[0].Back = -1 }),
		"back to 1001":           with(func(t *api.Thread) { t.Frames[1].Back = 1001 }),
		"state -1":               with(func(t *api.Thread) { t.State = -1 }),
		"state 3":                with(func(t *api.Thread) { t.State = 3 }),
		"runs with a fault":      with(func(t *api.Thread) { t.Fault = api.ErrArg }),
		"halted with a fault":    with(func(t *api.Thread) { t.State, t.Fault = api.SHalt, api.ErrState }),
		"faulted with OK":        with(func(t *api.Thread) { t.State = api.SFault }),
		"faulted with 17":        with(func(t *api.Thread) { t.State, t.Fault = api.SFault, 17 }),
		"9 left":                 with(func(t *api.Thread) { t.Left = make([]int, 9) }),
		"-1 left of one":         with(func(t *api.Thread) { t.Left = []int{-1} }),
		"9 left of one":          with(func(t *api.Thread) { t.Left = []int{0, 9} }),
		"at 1001, 9 left of one": with(func(t *api.Thread) { t.Pc, t.Left = 1001, []int{9} }),
	}
}

// busy are threads that may be, but do no instruction, by why that is.
func busy() map[string]api.Thread {
	return map[string]api.Thread{
		"halted":             with(func(t *api.Thread) { t.State = api.SHalt }),
		"faulted":            with(func(t *api.Thread) { t.State, t.Fault = api.SFault, api.ErrArg }),
		"faulted, the last":  with(func(t *api.Thread) { t.State, t.Fault = api.SFault, api.ErrDiff }),
		"0 left":             with(func(t *api.Thread) { t.Left = []int{0} }),
		"0 left of 8":        with(func(t *api.Thread) { t.Left = make([]int, 8) }),
		"8 left of the last": with(func(t *api.Thread) { t.Left = []int{0, 8} }),
		"halted, 1 left":     with(func(t *api.Thread) { t.State, t.Left = api.SHalt, []int{1} }),
	}
}

// every are instructions of all kinds that a thread at 77 in two calls does.
func every() []api.Instr {
	return []api.Instr{
		{Op: api.OSet, A: 3, B: 9}, {Op: api.OMove, A: 3, B: 4}, {Op: api.OPlus, A: 3, B: 4, C: 5}, {Op: api.OMask, A: 3, B: 4, C: 5},
		{Op: api.OAdd, A: 3, B: 4, C: 5}, {Op: api.OSub, A: 3, B: 4, C: 5}, {Op: api.OAnd, A: 3, B: 4, C: 5}, {Op: api.OXor, A: 3, B: 4, C: 5},
		{Op: api.OLess, A: 3, B: 4, C: 5}, {Op: api.OJump, A: 8}, {Op: api.OZero, A: 3, B: 8}, {Op: api.OSome, A: 3, B: 8},
		{Op: api.OCall, A: 8}, {Op: api.ORet}, {Op: api.OSelf, A: 3},
	}
}

// broken are instructions that no thread does, with why that is: an operation that is not local, an operand that is none of its kind.
func broken() map[api.Errno][]api.Instr {
	all := map[api.Errno][]api.Instr{}
	for _, op := range others {
		all[api.ErrOp] = append(all[api.ErrOp], api.Instr{Op: op}, api.Instr{Op: op, A: -1, B: most, C: 8})
	}
	for _, i := range every() {
		for k, sign := range signs[i.Op] {
			bad := map[rune][]int{'r': {least, -8, -1, 8, 9, 1000, most}, 't': {least, -1000, -1, 1001, 1002, most}}
			for _, v := range bad[sign] {
				all[api.ErrRange] = append(all[api.ErrRange], operands(i, k, v))
			}
		}
	}
	return all
}

// operands is the instruction with one other operand.
func operands(i api.Instr, which, v int) api.Instr {
	*[]*int{&i.A, &i.B, &i.C}[which] = v
	return i
}

// round is the number that a whole one, of any size, is when it goes round.
func round(x *big.Int) int {
	low := new(big.Int).And(x, new(big.Int).SetUint64(math.MaxUint64))
	return int(low.Uint64())
}

// bitwise is the number with just those bits for which the answer to those of a and b holds.
func bitwise(a, b int, is func(p, q bool) bool) int {
	x := new(big.Int)
	for k := range 64 {
		if is(a>>k&1 != 0, b>>k&1 != 0) {
			x.SetBit(x, k, 1)
		}
	}
	return round(x)
}

func both(p, q bool) bool    { return p && q }
func justOne(p, q bool) bool { return p != q }

// told is what an operation that changes a register makes of b and c, and of number n of the instruction.
func told(op, b, c int) int {
	x, y := big.NewInt(int64(b)), big.NewInt(int64(c))
	switch op {
	case api.OMove:
		return b
	case api.OPlus, api.OAdd:
		return round(new(big.Int).Add(x, y))
	case api.OSub:
		return round(new(big.Int).Sub(x, y))
	case api.OMask, api.OAnd:
		return bitwise(b, c, both)
	case api.OXor:
		return bitwise(b, c, justOne)
	case api.OLess:
		if x.Cmp(y) < 0 {
			return 1
		}
		return 0
	}
	panic("changes no register by others")
}

// does holds what Apply answers against a thread and OK.
func does(t *testing.T, th api.Thread, self int, i api.Instr, want api.Thread) {
	t.Helper()
	was := copied(th)
	got, e := local.Apply(th, self, i)
	if e != api.OK || !same(got, want) || !frame.Right(got) {
		t.Errorf("%v: thread %d does %v: %v, %v, want %v", was, self, i, got, e, want)
	}
	if !same(th, was) {
		t.Errorf("%v: %v changed it: %v", was, i, th)
	}
}

// refuses holds what Apply answers against an error, and nothing beside it.
func refuses(t *testing.T, th api.Thread, self int, i api.Instr, want api.Errno) {
	t.Helper()
	was := copied(th)
	got, e := local.Apply(th, self, i)
	if e != want || !empty(got) {
		t.Errorf("%v: thread %d does %v: %v, %v, want error %v", was, self, i, got, e, want)
	}
	if !same(th, was) {
		t.Errorf("%v: %v changed it: %v", was, i, th)
	}
}

// runs holds what Run answers against a thread, how many instructions were done, and OK.
func runs(t *testing.T, th api.Thread, self int, code []api.Instr, limit int, want api.Thread, many int) {
	t.Helper()
	was, text := copied(th), slices.Clone(code)
	got, n, e := local.Run(th, self, code, limit)
	if e != api.OK || n != many || !same(got, want) || !frame.Right(got) {
		t.Errorf("%v: runs %d of %d: %v, %d, %v, want %v, %d", was, limit, len(code), got, n, e, want, many)
	}
	if !same(th, was) || !slices.Equal(code, text) {
		t.Errorf("%v: running changed it: %v, %v", was, th, code)
	}
}

// stops holds what Run answers against an error, and nothing beside it.
func stops(t *testing.T, th api.Thread, self int, code []api.Instr, limit int, want api.Errno) {
	t.Helper()
	was := copied(th)
	got, n, e := local.Run(th, self, code, limit)
	if e != want || n != 0 || !empty(got) {
		t.Errorf("%v: thread %d runs %d: %v, %d, %v, want error %v", was, self, limit, got, n, e, want)
	}
	if !same(th, was) {
		t.Errorf("%v: running changed it: %v", was, th)
	}
}

// P7.1: the chapter's examples.
func TestExamples(t *testing.T) {
	for _, x := range []struct {
		i    api.Instr
		want [8]int
	}{
		{api.Instr{Op: api.OAdd, A: 0, B: 0, C: 1}, [8]int{3, 2}},
		{api.Instr{Op: api.OLess, A: 0, B: 1, C: 0}, [8]int{0, 2}},
	} {
		does(t, api.Thread{Regs: [8]int{1, 2}}, 0, x.i, api.Thread{Pc: 1, Regs: x.want})
	}
}

// P7.1: what is told of registers, for all pairs of numbers at edges.
func TestRegistersBecome(t *testing.T) {
	for _, op := range []int{api.OAdd, api.OSub, api.OAnd, api.OXor, api.OLess} {
		for _, b := range numbers {
			for _, c := range numbers {
				th, want := deep(2), at(78, 2)
				th.Regs[1], th.Regs[6] = b, c
				want.Regs[1], want.Regs[6], want.Regs[3] = b, c, told(op, b, c)
				does(t, th, 2, api.Instr{Op: op, A: 3, B: 1, C: 6}, want)
			}
		}
	}
}

// P7.1: numbers of instructions are any.
func TestNumbersAreAny(t *testing.T) {
	for _, n := range append([]int{api.MaxNumber, api.MaxNumber + 1, -api.MaxNumber - 1}, numbers...) {
		want := at(78, 2)
		want.Regs[3] = n
		does(t, deep(2), 2, api.Instr{Op: api.OSet, A: 3, B: n}, want)
		for _, op := range []int{api.OPlus, api.OMask} {
			for _, b := range numbers {
				th, want := deep(2), at(78, 2)
				th.Regs[1] = b
				want.Regs[1], want.Regs[3] = b, told(op, b, n)
				does(t, th, 2, api.Instr{Op: op, A: 3, B: 1, C: n}, want)
			}
		}
	}
}

// P7.1: some by hand, so that nothing hangs on how the tests reckon.
func TestByHand(t *testing.T) {
	th := api.Thread{Pc: 5, Regs: [8]int{12, 10, -1, 7, most, least}}
	for _, x := range []struct {
		i    api.Instr
		want int
	}{
		{api.Instr{Op: api.OPlus, A: 7, B: 4, C: 1}, least},
		{api.Instr{Op: api.OPlus, A: 7, B: 5, C: -1}, most},
		{api.Instr{Op: api.OMask, A: 7, B: 2, C: -64}, -64},
		{api.Instr{Op: api.OMask, A: 7, B: 0, C: 10}, 8},
		{api.Instr{Op: api.OAdd, A: 7, B: 4, C: 4}, -2},
		{api.Instr{Op: api.OSub, A: 7, B: 5, C: 3}, most - 6},
		{api.Instr{Op: api.OSub, A: 7, B: 3, C: 0}, -5},
		{api.Instr{Op: api.OAnd, A: 7, B: 2, C: 5}, least},
		{api.Instr{Op: api.OXor, A: 7, B: 0, C: 1}, 6},
		{api.Instr{Op: api.OXor, A: 7, B: 2, C: 4}, least},
		{api.Instr{Op: api.OLess, A: 7, B: 5, C: 4}, 1},
		{api.Instr{Op: api.OLess, A: 7, B: 4, C: 5}, 0},
		{api.Instr{Op: api.OLess, A: 7, B: 2, C: 6}, 1},
		{api.Instr{Op: api.OLess, A: 7, B: 3, C: 3}, 0},
		{api.Instr{Op: api.OMove, A: 7, B: 5}, least},
		{api.Instr{Op: api.OSet, A: 7, B: -99}, -99},
		{api.Instr{Op: api.OSelf, A: 7}, 6},
	} {
		want := copied(th)
		want.Pc, want.Regs[7] = 6, x.want
		does(t, th, 6, x.i, want)
	}
}

// P7.1, P7.3: whatever the registers are that an instruction tells, those that are the same one too, R[A] alone is another.
func TestWhicheverRegisters(t *testing.T) {
	for a := range 8 {
		for b := range 8 {
			for c := range 8 {
				for _, op := range []int{api.OAdd, api.OSub, api.OAnd, api.OXor, api.OLess} {
					th, want := deep(1), at(78, 1)
					want.Regs[a] = told(op, th.Regs[b], th.Regs[c])
					does(t, th, 0, api.Instr{Op: op, A: a, B: b, C: c}, want)
				}
			}
			for _, op := range []int{api.OMove, api.OPlus, api.OMask} {
				th, want := deep(1), at(78, 1)
				want.Regs[a] = told(op, th.Regs[b], 13)
				does(t, th, 0, api.Instr{Op: op, A: a, B: b, C: 13}, want)
			}
		}
		want := at(78, 1)
		want.Regs[a] = 55
		does(t, deep(1), 0, api.Instr{Op: api.OSet, A: a, B: 55}, want)
		for self := range 8 {
			want.Regs[a] = self
			does(t, deep(1), self, api.Instr{Op: api.OSelf, A: a}, want)
		}
	}
}

// P7.1: operands are registers' numbers and targets, whatever these registers have: a number is never taken for a register.
func TestOperandsAreNotValues(t *testing.T) {
	th := api.Thread{Pc: 5, Regs: [8]int{1, 2, 3, 4, 5, 6, 7, 0}}
	for _, x := range []struct {
		i    api.Instr
		pc   int
		reg0 int
	}{
		{api.Instr{Op: api.OSet, B: 3}, 6, 3},
		{api.Instr{Op: api.OPlus, B: 1, C: 3}, 6, 5},
		{api.Instr{Op: api.OMask, B: 2, C: 1}, 6, 1},
		{api.Instr{Op: api.OMove, B: 3}, 6, 4},
		{api.Instr{Op: api.OJump, A: 3}, 3, 1},
		{api.Instr{Op: api.OSome, B: 3}, 3, 1},
		{api.Instr{Op: api.OZero, A: 7, B: 3}, 3, 1},
	} {
		want := copied(th)
		want.Pc, want.Regs[0] = x.pc, x.reg0
		does(t, th, 0, x.i, want)
	}
}

// P7.1: Pc is one more, wherever the thread stands, or else the target, whatever that is.
func TestPlaces(t *testing.T) {
	for _, pc := range []int{0, 1, 7, 500, 998, 999} {
		for _, i := range every() {
			if i.Op <= api.OLess || i.Op == api.OSelf {
				if got, e := local.Apply(at(pc, 2), 0, i); e != api.OK || got.Pc != pc+1 {
					t.Errorf("at %d: %v: %v, %v", pc, i, got, e)
				}
			}
		}
		for _, to := range []int{0, 1, 7, 8, pc, pc + 1, 500, 999, 1000} {
			does(t, at(pc, 2), 0, api.Instr{Op: api.OJump, A: to}, at(to, 2))
			for r := range 8 {
				for _, v := range numbers {
					th := at(pc, 2)
					th.Regs[r] = v
					goes, stays := copied(th), copied(th)
					goes.Pc, stays.Pc = to, pc+1
					if v != 0 {
						goes, stays = stays, goes
					}
					does(t, th, 0, api.Instr{Op: api.OZero, A: r, B: to}, goes)
					does(t, th, 0, api.Instr{Op: api.OSome, A: r, B: to}, stays)
				}
			}
		}
	}
}

// P7.1: a call keeps its thread as frame.Call does, and ret comes back as frame.Back does; their errors are told.
func TestCallsAndComingBack(t *testing.T) {
	for many := range 7 {
		for _, pc := range []int{0, 1, 77, 999} {
			for _, to := range []int{0, 1, pc, pc + 1, 1000} {
				call := api.Instr{Op: api.OCall, A: to}
				if many == 6 {
					refuses(t, at(pc, 6), 0, call, api.ErrDeep)
					continue
				}
				want := at(to, many)
				want.Frames = append(want.Frames, api.Frame{Back: pc + 1, Kept: [4]int{-14, -15, -16, -17}})
				does(t, at(pc, many), 0, call, want)
			}
			if many == 0 {
				refuses(t, at(pc, 0), 0, api.Instr{Op: api.ORet}, api.ErrNone)
				continue
			}
			for _, back := range []int{0, pc, 1000} {
				th, want := at(pc, many), at(back, many-1)
				th.Frames[many-1].Back = back
				k := 10 * (many - 1)
				want.Regs = [8]int{-10, -11, -12, -13, k + 4, k + 5, k + 6, k + 7}
				does(t, th, 0, api.Instr{Op: api.ORet}, want)
			}
		}
	}
}

// P7.1: ErrArg of the thread, of its place and of its number comes ahead of all else.
func TestErrArg(t *testing.T) {
	all := every()
	for _, list := range broken() {
		all = append(all, list...)
	}
	for _, i := range all {
		for _, th := range wrong() {
			for _, self := range []int{-1, 0, 7, 8} {
				refuses(t, th, self, i, api.ErrArg)
			}
		}
		for _, self := range []int{least, -8, -1, 8, 9, most} {
			refuses(t, deep(2), self, i, api.ErrArg)
			for _, th := range busy() {
				refuses(t, th, self, i, api.ErrArg)
			}
		}
		for _, self := range []int{0, 3, 7} {
			refuses(t, at(1000, 2), self, i, api.ErrArg)
			for _, th := range busy() {
				th.Pc = 1000
				refuses(t, th, self, i, api.ErrArg)
			}
		}
	}
	for self := range 8 {
		want := api.Thread{Pc: 1, Regs: [8]int{self}}
		does(t, api.Thread{}, self, api.Instr{Op: api.OSelf}, want)
	}
}

// P7.1: ErrState comes ahead of what is wrong with the instruction.
func TestErrState(t *testing.T) {
	all := every()
	for _, list := range broken() {
		all = append(all, list...)
	}
	for _, i := range all {
		for _, th := range busy() {
			refuses(t, th, 7, i, api.ErrState)
		}
	}
	six := with(func(t *api.Thread) { *t = deep(6); t.State = api.SHalt })
	refuses(t, six, 0, api.Instr{Op: api.OCall}, api.ErrState)
	refuses(t, api.Thread{Left: []int{0}}, 0, api.Instr{Op: api.ORet}, api.ErrState)
}

// P7.1: ErrOp of what is not local, ahead of its operands; and what is local has none.
func TestErrOp(t *testing.T) {
	for _, i := range broken()[api.ErrOp] {
		for many := range 7 {
			refuses(t, deep(many), 0, i, api.ErrOp)
		}
	}
	for op := -3; op <= 30; op++ {
		_, e := local.Apply(deep(2), 0, api.Instr{Op: op})
		if is := op >= 1 && op <= 15; is != (e == api.OK) {
			t.Error("operation", op, e)
		}
	}
}

// P7.1: ErrRange of each register and target, ahead of what calls and coming back tell, and wherever the instruction would go.
func TestErrRange(t *testing.T) {
	for _, i := range broken()[api.ErrRange] {
		for _, many := range []int{0, 2, 6} {
			for _, v := range []int{0, 1} {
				th := deep(many)
				th.Regs[3] = v
				refuses(t, th, 0, i, api.ErrRange)
			}
		}
	}
	for _, op := range []int{api.OAdd, api.OSub, api.OAnd, api.OXor, api.OLess} {
		for _, v := range [][3]int{{8, 8, 8}, {-1, 8, 0}, {0, -1, 8}, {8, 0, -1}} {
			refuses(t, deep(2), 0, api.Instr{Op: op, A: v[0], B: v[1], C: v[2]}, api.ErrRange)
		}
	}
	for _, op := range []int{api.OZero, api.OSome} {
		refuses(t, deep(2), 0, api.Instr{Op: op, A: 8, B: 1001}, api.ErrRange)
		does(t, at(5, 0), 0, api.Instr{Op: op, A: 7, B: 6}, at(6, 0))
	}
}

// P7.1: operands that an operation has not are not looked at.
func TestOtherOperands(t *testing.T) {
	for _, i := range every() {
		want, e := local.Apply(deep(2), 3, i)
		if e != api.OK {
			t.Fatal(i, e)
		}
		for k := len(signs[i.Op]); k < 3; k++ {
			for _, v := range []int{least, -1, 1, 7, 8, 1000, 1001, most} {
				does(t, deep(2), 3, operands(i, k, v), want)
			}
		}
	}
}

// P7.2: the example of a loop; what is applied is counted, and stands where it stopped.
func TestLoop(t *testing.T) {
	code := []api.Instr{{Op: api.OSet, A: 0, B: 3}, {Op: api.OPlus, A: 1, B: 1, C: 2}, {Op: api.OPlus, A: 0, B: 0, C: -1}, {Op: api.OSome, A: 0, B: 1}, {Op: api.OHalt}}
	steps := []api.Thread{{}}
	for _, x := range [][3]int{{1, 3, 0}, {2, 3, 2}, {3, 2, 2}, {1, 2, 2}, {2, 2, 4}, {3, 1, 4}, {1, 1, 4}, {2, 1, 6}, {3, 0, 6}, {4, 0, 6}} {
		steps = append(steps, api.Thread{Pc: x[0], Regs: [8]int{x[1], x[2]}})
	}
	for limit := range 20 {
		n := min(limit, 10)
		runs(t, api.Thread{}, 0, code, limit, steps[n], n)
	}
	runs(t, api.Thread{}, 0, code, 1000, steps[10], 10)
	for from, th := range steps {
		runs(t, th, 0, code, 1000, steps[10], 10-from)
	}
}

// P7.2: not more than most are applied, though there is no end.
func TestMost(t *testing.T) {
	turns := []api.Instr{{Op: api.OPlus, A: 5, B: 5, C: 1}, {Op: api.OJump}}
	for _, limit := range []int{0, 1, 2, 3, 10, 998, 999, 1000} {
		runs(t, api.Thread{}, 0, []api.Instr{{Op: api.OJump}}, limit, api.Thread{}, limit)
		want := api.Thread{Pc: limit % 2}
		want.Regs[5] = (limit + 1) / 2
		runs(t, api.Thread{}, 0, turns, limit, want, limit)
	}
	row := make([]api.Instr, 1000)
	for i := range row {
		row[i] = api.Instr{Op: api.OPlus, A: 2, B: 2, C: 1}
	}
	for _, from := range []int{0, 1, 500, 999, 1000} {
		for _, limit := range []int{0, 1, 499, 500, 501, 999, 1000} {
			n := min(limit, 1000-from)
			runs(t, api.Thread{Pc: from}, 0, row, limit, api.Thread{Pc: from + n, Regs: [8]int{0, 0, n}}, n)
		}
	}
}

// P7.2: where no instruction stands, none is applied, and no error told; Pc may be 1000, and be far behind the code.
func TestNoInstruction(t *testing.T) {
	one := []api.Instr{{Op: api.OSelf, A: 1}}
	for _, code := range [][]api.Instr{nil, {}, one, slices.Repeat(one, 4), slices.Repeat(one, 1000)} {
		for _, pc := range []int{0, 1, 2, 4, 5, 999, 1000} {
			for _, many := range []int{0, 2, 6} {
				if pc >= len(code) {
					runs(t, at(pc, many), 3, code, 1000, at(pc, many), 0)
					continue
				}
				want := at(len(code), many)
				want.Regs[1] = 3
				runs(t, at(pc, many), 3, code, 1000, want, len(code)-pc)
			}
		}
	}
}

// P7.2: code may be longer than that of chapter 5; at 1000 Apply tells an error, and this ends it.
func TestLongCode(t *testing.T) {
	long := slices.Repeat([]api.Instr{{Op: api.OPlus, A: 2, B: 2, C: 1}}, 1300)
	runs(t, at(1000, 2), 0, long, 1000, at(1000, 2), 0)
	runs(t, api.Thread{Pc: 990}, 0, long, 1000, api.Thread{Pc: 1000, Regs: [8]int{0, 0, 10}}, 10)
	long[3] = api.Instr{Op: api.OJump, A: 1000}
	runs(t, api.Thread{}, 0, long, 1000, api.Thread{Pc: 1000, Regs: [8]int{0, 0, 3}}, 4)
}

// P7.2: what is not local, and each error of an instruction, ends it, is not counted, and not told; what was done ahead of it stays.
func TestErrorsEndIt(t *testing.T) {
	deepest := api.Instr{Op: api.OCall, A: 3}
	outermost := api.Instr{Op: api.ORet}
	for why, list := range broken() {
		for _, i := range list {
			code := []api.Instr{i, {Op: api.OPlus, A: 0, B: 0, C: 1}, {Op: api.OPlus, A: 0, B: 0, C: 1}, i, {Op: api.OPlus, A: 0, B: 0, C: 1}}
			runs(t, at(0, 2), 0, code, 1000, at(0, 2), 0)
			th, want := at(1, 2), at(3, 2)
			want.Regs[0] = th.Regs[0] + 2
			runs(t, th, 0, code, 1000, want, 2)
			if why == api.ErrOp {
				refuses(t, want, 0, i, why)
			}
		}
	}
	for many, i := range map[int]api.Instr{6: deepest, 0: outermost} {
		code := []api.Instr{{Op: api.OSet, A: 1, B: 5}, i, {Op: api.OSet, A: 1, B: 6}, {Op: api.OSet, A: 1, B: 7}}
		want := at(1, many)
		want.Regs[1] = 5
		runs(t, at(0, many), 0, code, 1000, want, 1)
		runs(t, at(1, many), 0, code, 1000, at(1, many), 0)
	}
}

// P7.2: a routine that calls itself goes six calls deep, and is there when the seventh can't be.
func TestDeeperAndDeeper(t *testing.T) {
	code := []api.Instr{{Op: api.OPlus, A: 4, B: 4, C: 1}, {Op: api.OCall, A: 0}}
	want := api.Thread{Pc: 1}
	want.Regs[4] = 7
	for i := range 6 {
		want.Frames = append(want.Frames, api.Frame{Back: 2, Kept: [4]int{i + 1}})
	}
	runs(t, api.Thread{}, 0, code, 1000, want, 13)
	// With a way back, all calls end, the outermost one by having none to come back from.
	back := []api.Instr{{Op: api.OPlus, A: 0, B: 0, C: 1}, {Op: api.OPlus, A: 4, B: 0, C: 0}, {Op: api.OPlus, A: 1, B: 0, C: -6}, {Op: api.OZero, A: 1, B: 5}, {Op: api.OCall, A: 0}, {Op: api.OAdd, A: 2, B: 2, C: 4}, {Op: api.ORet}}
	end := api.Thread{Pc: 6, Regs: [8]int{6, 0, 1 + 2 + 3 + 4 + 5 + 6, 0, 1}}
	runs(t, api.Thread{}, 0, back, 1000, end, 5*5+4+6*2-1)
}

// P7.2: ErrArg comes first, then ErrState; both are told even where nothing is to be done.
func TestRunErrors(t *testing.T) {
	for _, code := range [][]api.Instr{nil, every(), {{Op: api.OHalt}}, {{Op: api.OSet, A: 8}}} {
		for _, limit := range []int{least, -1000, -1, 0, 1, 1000, 1001, 1002, most} {
			for _, self := range []int{least, -1, 0, 7, 8, most} {
				for _, th := range wrong() {
					stops(t, th, self, code, limit, api.ErrArg)
				}
				bad := limit < 0 || limit > 1000 || self < 0 || self > 7
				for _, pc := range []int{0, 77, 999, 1000} {
					if bad {
						stops(t, at(pc, 2), self, code, limit, api.ErrArg)
					} else if pc > len(code) {
						runs(t, at(pc, 2), self, code, limit, at(pc, 2), 0)
					}
					for _, th := range busy() {
						th.Pc = pc
						if bad {
							stops(t, th, self, code, limit, api.ErrArg)
						} else {
							stops(t, th, self, code, limit, api.ErrState)
						}
					}
				}
			}
		}
	}
}

// P7.2: a thread that has halted, at the end of its code, is told as such, and not as one that did nothing.
func TestRunOfNone(t *testing.T) {
	for _, limit := range []int{0, 1, 1000} {
		stops(t, api.Thread{State: api.SHalt}, 0, nil, limit, api.ErrState)
		stops(t, api.Thread{Left: []int{0}}, 0, nil, limit, api.ErrState)
		runs(t, api.Thread{}, 0, nil, limit, api.Thread{}, 0)
		runs(t, api.Thread{Pc: 1000, Frames: []api.Frame{}, Left: []int{}}, 7, nil, limit, api.Thread{Pc: 1000}, 0)
	}
}

// dice throw the same numbers each time.
type dice uint64

// up is a number from 0 to n-1.
func (d *dice) up(n int) int {
	*d = *d*6364136223846793005 + 1442695040888963407
	return int(uint64(*d) >> 33 % uint64(n))
}

// thrown is code of many instructions of all kinds, most of them right.
func thrown(d *dice, many int) []api.Instr {
	code := make([]api.Instr, many)
	for k := range code {
		i := api.Instr{Op: 1 + d.up(15)}
		if d.up(40) == 0 {
			i.Op = others[d.up(len(others))]
		}
		for o, sign := range signs[i.Op] {
			v := numbers[d.up(len(numbers))]
			switch {
			case d.up(80) == 0: // whatever it is
			case sign == 'r':
				v = d.up(8)
			case sign == 't':
				v = d.up(many + 1)
			}
			i = operands(i, o, v)
		}
		code[k] = i
	}
	return code
}

// telling is a thread that keeps its callers whole.
type telling struct {
	now    api.Thread
	before []api.Thread
	self   int
}

// does tells whether the instruction is done.
func (x *telling) does(i api.Instr) bool {
	kinds, is := signs[i.Op]
	v := [3]int{i.A, i.B, i.C}
	for k, sign := range kinds {
		is = is && (sign == 'n' || v[k] >= 0 && v[k] <= map[rune]int{'r': 7, 't': 1000}[sign])
	}
	if !is || i.Op == api.OCall && len(x.before) == 6 || i.Op == api.ORet && len(x.before) == 0 {
		return false
	}
	regs := &x.now.Regs
	x.now.Pc++
	switch i.Op {
	case api.OSet:
		regs[i.A] = i.B
	case api.OSelf:
		regs[i.A] = x.self
	case api.OMove, api.OPlus, api.OMask:
		regs[i.A] = told(i.Op, regs[i.B], i.C)
	case api.OAdd, api.OSub, api.OAnd, api.OXor, api.OLess:
		regs[i.A] = told(i.Op, regs[i.B], regs[i.C])
	case api.OJump:
		x.now.Pc = i.A
	case api.OZero, api.OSome:
		if (regs[i.A] == 0) == (i.Op == api.OZero) {
			x.now.Pc = i.B
		}
	case api.OCall:
		x.before = append(x.before, x.now)
		x.now.Pc = i.A
	case api.ORet:
		caller := x.before[len(x.before)-1]
		x.before = x.before[:len(x.before)-1]
		x.now.Pc = caller.Pc
		copy(regs[4:], caller.Regs[4:])
	}
	return true
}

// thread is the one that is told.
func (x *telling) thread() api.Thread {
	t := x.now
	for _, b := range x.before {
		t.Frames = append(t.Frames, api.Frame{Back: b.Pc, Kept: [4]int(b.Regs[4:])})
	}
	return t
}

// P7.1 to P7.3: code of all kinds runs as a telling that keeps whole threads says, step by step, at once, and in two parts.
func TestAllCode(t *testing.T) {
	d := dice(7)
	for range 1500 {
		code := thrown(&d, 1+d.up(25))
		self := d.up(8)
		x := telling{self: self}
		for r := range 8 {
			x.now.Regs[r] = numbers[d.up(len(numbers))]
		}
		first := x.thread()
		limit := d.up(120)
		part, half, n := d.up(limit+1), first, 0
		for n < limit && x.now.Pc < len(code) {
			th := x.thread()
			if !x.does(code[th.Pc]) {
				if got, e := local.Apply(th, self, code[th.Pc]); e == api.OK || !empty(got) {
					t.Fatalf("%v: %v is done: %v", th, code[th.Pc], got)
				}
				break
			}
			does(t, th, self, code[th.Pc], x.thread())
			n++
			if n == part {
				half = x.thread()
			}
		}
		runs(t, first, self, code, limit, x.thread(), n)
		if part <= n {
			runs(t, first, self, code, part, half, part)
			runs(t, half, self, code, limit-part, x.thread(), n-part)
		}
		if t.Failed() {
			t.Fatal(code)
		}
	}
}

// P7.3: no instruction changes another register than R[A], but for coming back; only calls and coming back change frames.
func TestWhatStays(t *testing.T) {
	d := dice(11)
	for range 4000 {
		i := thrown(&d, 60)[d.up(60)]
		th := at(d.up(1000), d.up(7))
		got, e := local.Apply(th, d.up(8), i)
		if e != api.OK {
			continue
		}
		for r := range 8 {
			a := r == i.A && i.Op != api.OJump && i.Op != api.OCall
			if got.Regs[r] != th.Regs[r] && !a && (i.Op != api.ORet || r < 4) {
				t.Errorf("%v: %v changes register %d: %v", th, i, r, got)
			}
		}
		if !slices.Equal(got.Frames, th.Frames) != (i.Op == api.OCall || i.Op == api.ORet) {
			t.Errorf("%v: %v: frames %v", th, i, got.Frames)
		}
		if got.State != api.SRun || got.Fault != api.OK || len(got.Left) != 0 {
			t.Errorf("%v: %v: %v", th, i, got)
		}
	}
}

// P7.3: what is added and taken away again leaves what was there, by registers and by numbers.
func TestAddedAndTakenAway(t *testing.T) {
	for _, a := range numbers {
		for _, b := range numbers {
			th := api.Thread{Regs: [8]int{a, b}}
			added := []api.Instr{{Op: api.OAdd, A: 0, B: 0, C: 1}, {Op: api.OSub, A: 0, B: 0, C: 1}}
			runs(t, th, 0, added, 2, api.Thread{Pc: 2, Regs: th.Regs}, 2)
			taken := []api.Instr{{Op: api.OSub, A: 0, B: 0, C: 1}, {Op: api.OAdd, A: 0, B: 0, C: 1}}
			runs(t, th, 0, taken, 2, api.Thread{Pc: 2, Regs: th.Regs}, 2)
			number := []api.Instr{{Op: api.OPlus, A: 0, B: 0, C: b}, {Op: api.OSub, A: 0, B: 0, C: 1}}
			runs(t, th, 0, number, 2, api.Thread{Pc: 2, Regs: th.Regs}, 2)
		}
	}
}

// P7.3: three exchanges by bits that just one has put each register's number into the other one.
func TestThreeExchanges(t *testing.T) {
	for p := range 8 {
		for q := range 8 {
			if p == q {
				continue
			}
			for _, a := range numbers {
				for _, b := range numbers {
					th := deep(2)
					th.Pc, th.Regs[p], th.Regs[q] = 0, a, b
					want := at(3, 2)
					want.Regs[p], want.Regs[q] = b, a
					code := []api.Instr{{Op: api.OXor, A: p, B: p, C: q}, {Op: api.OXor, A: q, B: p, C: q}, {Op: api.OXor, A: p, B: p, C: q}}
					runs(t, th, 0, code, 1000, want, 3)
				}
			}
		}
	}
}

// roomy is the thread with room behind its lists.
func roomy(t api.Thread) api.Thread {
	t.Frames = append(make([]api.Frame, 0, 9), t.Frames...)
	t.Left = make([]int, 0, 9)
	return t
}

// scribble changes each number in a thread's lists, and writes behind them.
func scribble(t api.Thread) {
	for i := range t.Frames {
		t.Frames[i] = api.Frame{Back: -9}
	}
	_ = append(t.Frames, api.Frame{Back: -8})
	_ = append(t.Left, -8)
}

// R1, R4, and more: answers share no list with what was handed in, nor with each other, and nothing is written behind its lists.
func TestAnswersShareNothing(t *testing.T) {
	calls := map[string]func(th api.Thread) (api.Thread, api.Errno){}
	for _, i := range every() {
		calls["Apply "+strconv.Itoa(i.Op)] = func(th api.Thread) (api.Thread, api.Errno) { return local.Apply(th, 3, i) }
		calls["Run "+strconv.Itoa(i.Op)] = func(th api.Thread) (api.Thread, api.Errno) {
			got, _, e := local.Run(th, 3, slices.Repeat([]api.Instr{i}, 78), 1)
			return got, e
		}
	}
	calls["Run, none"] = func(th api.Thread) (api.Thread, api.Errno) {
		got, _, e := local.Run(th, 3, nil, 1)
		return got, e
	}
	for name, call := range calls {
		th := roomy(deep(3))
		one, e := call(th)
		two, f := call(th)
		if e != api.OK || f != api.OK || !same(one, two) {
			t.Fatalf("%s: %v, %v, and then %v, %v", name, one, e, two, f)
		}
		was := copied(one)
		scribble(two)
		if !same(one, was) || !same(th, deep(3)) {
			t.Errorf("%s: shares with another answer, or with what was handed in: %v, %v", name, one, th)
		}
		for _, f := range th.Frames[3:9] {
			if f != (api.Frame{}) {
				t.Errorf("%s: wrote behind the frames: %v", name, f)
			}
		}
		if slices.Max(th.Left[:9]) != 0 || slices.Min(th.Left[:9]) != 0 {
			t.Errorf("%s: wrote behind what is left: %v", name, th.Left[:9])
		}
	}
}

// R3: empty lists and none count the same.
func TestEmptyLists(t *testing.T) {
	none := api.Thread{Pc: 5, Regs: [8]int{1, 2, 3, 4, 5, 6, 7, 8}}
	some := none
	some.Frames, some.Left = []api.Frame{}, []int{}
	for _, i := range every() {
		a, e := local.Apply(none, 1, i)
		b, f := local.Apply(some, 1, i)
		if e != f || !same(a, b) || (e == api.OK) != (i.Op != api.ORet) {
			t.Error(i, a, e, b, f)
		}
		a, n, e := local.Run(none, 1, slices.Repeat([]api.Instr{i}, 9), 20)
		b, m, f := local.Run(some, 1, slices.Repeat([]api.Instr{i}, 9), 20)
		if e != api.OK || f != api.OK || n != m || !same(a, b) {
			t.Error(i, a, n, e, b, m, f)
		}
	}
	runs(t, none, 0, nil, 9, none, 0)
	runs(t, some, 0, []api.Instr{}, 9, none, 0)
}

// P1: every call ends, and none panics, at arguments of all kinds; what is handed in stays.
func TestEveryCallEnds(t *testing.T) {
	d := dice(13)
	threads := []api.Thread{{}, deep(0), deep(6), at(0, 3), at(999, 3), at(1000, 3), roomy(deep(2))}
	for _, th := range wrong() {
		threads = append(threads, th)
	}
	for _, th := range busy() {
		threads = append(threads, th)
	}
	edges := []int{least, least + 1, -1001, -1, 0, 1, 6, 7, 8, 999, 1000, 1001, most - 1, most}
	for _, th := range threads {
		was := copied(th)
		for _, self := range edges {
			for range 150 {
				e := edges
				i := api.Instr{Op: d.up(30) - 1, A: e[d.up(len(e))], B: e[d.up(len(e))], C: e[d.up(len(e))]}
				got, why := local.Apply(th, self, i)
				if why == api.OK && !frame.Right(got) || why != api.OK && !empty(got) {
					t.Errorf("%v: thread %d does %v: %v, %v", was, self, i, got, why)
				}
				code := slices.Repeat([]api.Instr{i}, d.up(3)*d.up(600))
				got, n, why := local.Run(th, self, code, edges[d.up(len(edges))])
				if why == api.OK && (!frame.Right(got) || n < 0 || n > 1000) || why != api.OK && (!empty(got) || n != 0) {
					t.Errorf("%v: thread %d runs %v: %v, %d, %v", was, self, i, got, n, why)
				}
			}
		}
		if !same(th, was) {
			t.Errorf("%v: was changed: %v", was, th)
		}
	}
}
