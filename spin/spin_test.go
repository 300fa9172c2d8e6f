package spin_test

import (
	"fmt"
	"math"
	"math/rand"
	"slices"
	"strconv"
	"strings"
	"testing"

	"respite/api"
	"respite/asm"
	"respite/sched"
	"respite/spin"
	"respite/step"
)

const (
	most  = math.MaxInt
	least = math.MinInt
)

// The chapter's lines, each ended.
const (
	lockText = `lock:
set r1 0
set r2 1
cas r1 r0 r2
zero r1 locked
wait r1 r0
jump lock
locked:
ret
unlock:
set r1 0
xchg r1 r0
ret
`
	turnText = `set r0 1
call lock
mark 2
set r4 2
load r5 r4 0
plus r5 r5 1
store r5 r4 0
mark 3
set r0 1
call unlock
`
)

// told is all that a world is: an empty list and none are alike.
func told(w api.World) string { return fmt.Sprint(w) }

// reckoned is the program of turns by the chapter's words.
func reckoned(turns []int) string {
	s := lockText
	for i, n := range turns {
		s += fmt.Sprintf("t%d:\n", i) + strings.Repeat(turnText, n) + "halt\n"
	}
	return s
}

// sum is how many turns there are.
func sum(turns []int) int {
	n := 0
	for _, many := range turns {
		n += many
	}
	return n
}

// thrown are turns that may be, of any length that may be.
func thrown(r *rand.Rand) []int {
	l := make([]int, 1+r.Intn(8))
	for i := range l {
		l[i] = r.Intn(10)
	}
	return l
}

// right are turns that may be, at all edges.
func right() [][]int {
	all := [][]int{{0}, {1}, {8}, {9}, {0, 0}, {9, 0}, {0, 9}, {2, 1}, {2, 0, 1}, {1, 2, 3, 4, 5, 6, 7}, {1, 2, 3, 4, 5, 6, 7, 8}, {9, 8, 7, 6, 5, 4, 3, 2}}
	for n := 1; n <= 8; n++ {
		all = append(all, make([]int, n), slices.Repeat([]int{1}, n), slices.Repeat([]int{9}, n))
	}
	return all
}

// wrong are no turns: too few, too many, or with one number, at any place, that may not be.
func wrong() [][]int {
	all := [][]int{nil, {}, make([]int, 9), slices.Repeat([]int{1}, 9), slices.Repeat([]int{9}, 9), make([]int, 10), make([]int, 100000), {10, -1}, slices.Repeat([]int{10}, 8), slices.Repeat([]int{-1}, 9)}
	for n := 1; n <= 8; n++ {
		for i := range n {
			for _, bad := range []int{-1, 10, 11, least, most, -9, 1 << 32, 1<<32 + 1} {
				l := slices.Repeat([]int{1}, n)
				l[i] = bad
				all = append(all, l)
			}
		}
	}
	return all
}

// made is the world of turns and a depth that may be.
func made(t *testing.T, turns []int, depth int) api.World {
	t.Helper()
	was := slices.Clone(turns)
	w, e := spin.World(turns, depth)
	if e != api.OK || !step.Right(w) {
		t.Fatalf("%v, %d: %v, %v", turns, depth, w, e)
	}
	if !slices.Equal(turns, was) {
		t.Errorf("%v was changed: %v", was, turns)
	}
	return w
}

// P11.1, P11.2: the chapter's example.
func TestExamples(t *testing.T) {
	for depth := range 9 {
		w, rounds, e := sched.Rounds(made(t, []int{2, 1}, depth), 1000)
		if e != api.OK || rounds == 1000 || w.Tso.Memory.Words[2] != 3 {
			t.Errorf("%d: %v, %d rounds, %v", depth, w, rounds, e)
		}
	}
}

// P11.1, R6: the text is the chapter's, each line of it ended.
func TestText(t *testing.T) {
	if s := spin.Text(); s != lockText {
		t.Errorf("%q, want %q", s, lockText)
	}
}

// called is a world of one thread for each label and routine, that calls the routine of the lock's text, of a memory whose word 1 is so much.
func called(t *testing.T, word int, routines ...string) api.World {
	t.Helper()
	text, labels := spin.Text(), []string{}
	for i, name := range routines {
		labels = append(labels, "a"+strconv.Itoa(i))
		text += labels[i] + ":\nset r0 1\nset r3 33\nset r4 44\nset r7 77\ncall " + name + "\nhalt\n"
	}
	w, e := sched.New(text, labels, api.Memory{Words: []int{0, word}, Tags: []int{0, 1}}, 2)
	if e != api.OK {
		t.Fatal(routines, e)
	}
	return w
}

// P11.1: lock has a word that is 0 be 1, and waits as long as it is another one; unlock has it be 0.
func TestWhatTheTextDoes(t *testing.T) {
	for _, word := range []int{0, 1, 2, -1, most, least} {
		w, _, e := sched.Rounds(called(t, word, "unlock"), 100)
		if e != api.OK || w.Tso.Memory.Words[1] != 0 || w.Threads[0].State != api.SHalt {
			t.Errorf("unlock at %d: %v, %v", word, w, e)
		}
		w, _, e = sched.Rounds(called(t, word, "lock"), 100)
		if halted := w.Threads[0].State == api.SHalt; e != api.OK || halted != (word == 0) || halted && w.Tso.Memory.Words[1] != 1 || !halted && w.Tso.Memory.Words[1] != word {
			t.Errorf("lock at %d: %v, %v", word, w, e)
		}
		if r := w.Threads[0].Regs; r[0] != 1 || r[3] != 33 || r[4] != 44 || r[7] != 77 {
			t.Errorf("lock at %d: registers %v", word, r)
		}
		w, _, e = sched.Rounds(called(t, word, "lock", "unlock"), 100)
		if e != api.OK || w.Tso.Memory.Words[1] > 1 || w.Threads[0].State != api.SHalt || w.Threads[1].State != api.SHalt {
			t.Errorf("both at %d: %v, %v", word, w, e)
		}
	}
}

// P11.1: who waits goes on only when the word is 0, whatever else it is in between.
func TestWaitsForZero(t *testing.T) {
	w := called(t, 5, "lock")
	for _, word := range []int{5, 6, -5, 1, 2, 1} {
		w.Tso.Memory.Words[1] = word
		n, _, e := sched.Rounds(w, 100)
		if e != api.OK || n.Threads[0].State != api.SRun || n.Tso.Memory.Words[1] != word {
			t.Fatalf("%d: %v, %v", word, n, e)
		}
		w = n
	}
	w.Tso.Memory.Words[1] = 0
	if n, _, e := sched.Rounds(w, 100); e != api.OK || n.Threads[0].State != api.SHalt || n.Tso.Memory.Words[1] != 1 {
		t.Errorf("%v, %v", n, e)
	}
}

// P11.1: programs that are written out whole.
func TestProgram(t *testing.T) {
	for _, c := range []struct {
		turns []int
		want  string
	}{
		{[]int{0}, lockText + "t0:\nhalt\n"},
		{[]int{1}, lockText + "t0:\nset r0 1\ncall lock\nmark 2\nset r4 2\nload r5 r4 0\nplus r5 r5 1\nstore r5 r4 0\nmark 3\nset r0 1\ncall unlock\nhalt\n"},
		{[]int{0, 0, 0}, lockText + "t0:\nhalt\nt1:\nhalt\nt2:\nhalt\n"},
		{[]int{2, 1}, lockText + "t0:\n" + turnText + turnText + "halt\nt1:\n" + turnText + "halt\n"},
		{[]int{0, 1}, lockText + "t0:\nhalt\nt1:\n" + turnText + "halt\n"},
		{[]int{0, 0, 0, 0, 0, 0, 0, 3}, lockText + "t0:\nhalt\nt1:\nhalt\nt2:\nhalt\nt3:\nhalt\nt4:\nhalt\nt5:\nhalt\nt6:\nhalt\nt7:\n" + turnText + turnText + turnText + "halt\n"},
	} {
		if s, e := spin.Program(c.turns); e != api.OK || s != c.want {
			t.Errorf("%v: %q, %v\nwant %q", c.turns, s, e, c.want)
		}
	}
}

// P11.1: all turns of one and of two threads, and thrown ones of up to eight, against the chapter's words.
func TestProgramOfAll(t *testing.T) {
	all := right()
	for a := range 10 {
		all = append(all, []int{a})
		for b := range 10 {
			all = append(all, []int{a, b})
		}
	}
	r := rand.New(rand.NewSource(11))
	for range 500 {
		all = append(all, thrown(r))
	}
	for _, turns := range all {
		was := slices.Clone(turns)
		s, e := spin.Program(turns)
		if want := reckoned(turns); e != api.OK || s != want {
			t.Fatalf("%v: %q, %v\nwant %q", turns, s, e, want)
		}
		if !slices.Equal(turns, was) {
			t.Errorf("%v was changed: %v", was, turns)
		}
	}
}

// P11.1: as many turns as may be are still code.
func TestProgramOfMost(t *testing.T) {
	s, e := spin.Program(slices.Repeat([]int{9}, 8))
	code, line, why := asm.Parse(s)
	if e != api.OK || why != api.OK || line != 0 || len(code) != 10+8*(9*10+1) {
		t.Errorf("%v; %d instructions, line %d, %v", e, len(code), line, why)
	}
}

// P11.1, R2: what are no turns has no program, and no world at any depth.
func TestSize(t *testing.T) {
	for _, turns := range wrong() {
		was := slices.Clone(turns)
		if s, e := spin.Program(turns); e != api.ErrSize || s != "" {
			t.Errorf("%v: %q, %v", turns, s, e)
		}
		for _, depth := range []int{0, 8, 9, -1} {
			if w, e := spin.World(turns, depth); e != api.ErrSize || told(w) != told(api.World{}) {
				t.Errorf("%v, %d: %v, %v", turns, depth, w, e)
			}
		}
		if !slices.Equal(turns, was) {
			t.Errorf("%v was changed: %v", was, turns)
		}
	}
}

// P11.1, R2: no world has a depth that is not 0 to 8.
func TestDepth(t *testing.T) {
	for _, turns := range right() {
		for _, depth := range []int{-1, -8, 9, 10, 1 << 32, least, most} {
			if w, e := spin.World(turns, depth); e != api.ErrSize || told(w) != told(api.World{}) {
				t.Errorf("%v, %d: %v, %v", turns, depth, w, e)
			}
		}
		for depth := range 9 {
			if w := made(t, turns, depth); w.Tso.Depth != depth {
				t.Errorf("%v, %d: %v", turns, depth, w)
			}
		}
	}
}

// P11.1: a world is its program's code, and three words, two of which are had, all 0; each thread is at its label, and nothing was done yet.
func TestWorld(t *testing.T) {
	all := right()
	r := rand.New(rand.NewSource(111))
	for range 200 {
		all = append(all, thrown(r))
	}
	for i, turns := range all {
		text := reckoned(turns)
		code, _, e := asm.Parse(text)
		want := api.World{Code: code, Tso: api.Tso{Memory: api.Memory{Words: []int{0, 0, 0}, Tags: []int{0, 1, 1}}, Depth: i % 9, Buffers: make([][]api.Put, len(turns))}}
		for thread := range turns {
			at, why := asm.Where(text, fmt.Sprintf("t%d", thread))
			if e != api.OK || why != api.OK {
				t.Fatal(turns, e, why)
			}
			want.Threads = append(want.Threads, api.Thread{Pc: at})
		}
		if got := made(t, turns, i%9); told(got) != told(want) {
			t.Fatalf("%v, %d: %v\nwant %v", turns, i%9, got, want)
		}
	}
}

// P11.1: where two threads start, by hand: behind the ten instructions of the lock, and the one ahead of the other.
func TestStarts(t *testing.T) {
	for _, c := range []struct{ turns, want []int }{
		{[]int{0}, []int{10}},
		{[]int{9, 0}, []int{10, 101}},
		{[]int{0, 9}, []int{10, 11}},
		{[]int{2, 0, 1, 5}, []int{10, 31, 32, 43}},
	} {
		var got []int
		for _, thread := range made(t, c.turns, 1).Threads {
			got = append(got, thread.Pc)
		}
		if !slices.Equal(got, c.want) {
			t.Errorf("%v: %v, want %v", c.turns, got, c.want)
		}
	}
}

// among is why a world of turns may not be one that a script can come to, or "".
func among(w api.World, turns []int) string {
	inside, marked := -1, make([]int, len(turns))
	for _, event := range w.Events {
		switch {
		case event.Kind == api.ELock && inside == -1:
			inside = event.Thread
		case event.Kind == api.EUnlock && inside == event.Thread:
			inside = -1
			marked[event.Thread]++
		default:
			return "two are between the marks"
		}
	}
	lock, count := w.Tso.Memory.Words[1], w.Tso.Memory.Words[2]
	if lock != 0 && lock != 1 || lock == 0 && inside != -1 {
		return "somebody is in, and the lock is not had"
	}
	if lock == 0 && count != sum(marked) {
		return "nobody has the lock, and the count is another one"
	}
	halted := true
	for i, thread := range w.Threads {
		if thread.State == api.SFault {
			return "a thread has faulted"
		}
		halted = halted && thread.State == api.SHalt
		if marked[i] > turns[i] || thread.State == api.SHalt && marked[i] != turns[i] {
			return "a thread made another number of turns"
		}
	}
	if halted && (lock != 0 || count != sum(turns)) {
		return "all have halted, and the count is another one"
	}
	return ""
}

// key is all by which a world differs from others of one program.
func key(w api.World) string {
	var b []byte
	put := func(numbers ...int) {
		for _, n := range numbers {
			b = append(strconv.AppendInt(b, int64(n), 10), ' ')
		}
	}
	put(w.Tso.Memory.Words...)
	for i, thread := range w.Threads {
		put(thread.Pc, thread.State, int(thread.Fault), len(thread.Frames), len(w.Tso.Buffers[i]))
		put(thread.Regs[:]...)
		for _, f := range thread.Frames {
			put(f.Back)
			put(f.Kept[:]...)
		}
		for _, p := range w.Tso.Buffers[i] {
			put(p.At, p.Value)
		}
	}
	for _, event := range w.Events {
		put(event.Kind, event.Thread)
	}
	return string(b)
}

// P11.2, P5: all worlds to which any script can take a few threads; where nothing can be done, all have halted.
func TestAllScripts(t *testing.T) {
	for _, c := range []struct {
		turns []int
		depth int
	}{
		{[]int{0}, 0}, {[]int{3}, 0}, {[]int{3}, 2}, {[]int{0, 2}, 1},
		{[]int{1, 1}, 0}, {[]int{1, 1}, 1}, {[]int{1, 1}, 8}, {[]int{2, 1}, 0}, {[]int{2, 1}, 2}, {[]int{2, 2}, 1},
		{[]int{3, 2}, 1}, {[]int{1, 1, 1}, 0}, {[]int{1, 1, 1}, 1}, {[]int{2, 1, 1}, 2},
	} {
		first := made(t, c.turns, c.depth)
		met, left, ends := map[string]bool{key(first): true}, []api.World{first}, 0
		for len(left) > 0 {
			w := left[len(left)-1]
			left = left[:len(left)-1]
			if why := among(w, c.turns); why != "" {
				t.Fatalf("%v, %d: %s: %v", c.turns, c.depth, why, w)
			}
			some := false
			for i := range 2 * len(c.turns) {
				next, done, e := sched.Do(w, api.Act{Kind: i % 2, Thread: i / 2})
				if e != api.OK {
					t.Fatal(w, i, e)
				}
				some = some || done
				if k := key(next); done && !met[k] {
					met[k] = true
					left = append(left, next)
				}
			}
			if !some {
				ends++
				if slices.ContainsFunc(w.Threads, func(thread api.Thread) bool { return thread.State != api.SHalt }) {
					t.Fatalf("%v, %d: nobody can go on: %v", c.turns, c.depth, w)
				}
			}
		}
		if ends == 0 {
			t.Errorf("%v, %d: no script ends", c.turns, c.depth)
		}
	}
}

// P11.2: thrown scripts, fair and not, of thrown turns: each world on the way, and the end that rounds take it to.
func TestThrownScripts(t *testing.T) {
	r := rand.New(rand.NewSource(112))
	for range 60 {
		turns, depth := thrown(r), r.Intn(9)
		w := made(t, turns, depth)
		// Some threads are slow, and some flush seldom.
		slow, late := 1+r.Intn(10), r.Intn(10)
		for range 400 {
			a := api.Act{Thread: r.Intn(len(turns) + 1)}
			if r.Intn(10) > late {
				a.Kind = r.Intn(3)
			}
			if a.Thread == 0 && r.Intn(slow) > 0 {
				continue
			}
			next, done, e := sched.Do(w, a)
			if why := among(next, turns); e != api.OK || why != "" {
				t.Fatalf("%v, %d: %v: %s: %v, %v, %v", turns, depth, a, why, next, done, e)
			}
			w = next
		}
		ended(t, w, turns, 10000)
	}
}

// ended holds that rounds take a world of turns to its end.
func ended(t *testing.T, w api.World, turns []int, rounds int) {
	t.Helper()
	w, made, e := sched.Rounds(w, rounds)
	if why := among(w, turns); e != api.OK || made == rounds || why != "" {
		t.Fatalf("%v: %s: %d rounds, %v: %v", turns, why, made, e, w)
	}
	for _, thread := range w.Threads {
		if thread.State != api.SHalt {
			t.Fatalf("%v: a thread has not halted: %v", turns, w)
		}
	}
	if words := w.Tso.Memory.Words; words[0] != 0 || words[1] != 0 || words[2] != sum(turns) || len(w.Events) != 2*sum(turns) {
		t.Fatalf("%v: in the end %v, %d events", turns, words, len(w.Events))
	}
}

// P5, P11.2: when rounds go on, all halt, with few and with many turns.
func TestRoundsEnd(t *testing.T) {
	for _, turns := range right() {
		for _, depth := range []int{0, 1, 8} {
			ended(t, made(t, turns, depth), turns, 10000)
		}
	}
}

// P11.2: who is held between the marks holds all others up, and nobody counts meanwhile; what waits in its buffer is seen by nobody ahead of the unlock.
func TestHeldUp(t *testing.T) {
	turns := []int{2, 3, 1}
	w := made(t, turns, 4)
	acts := slices.Repeat([]api.Act{{Kind: api.AStep, Thread: 0}}, 12)
	w, done, e := sched.Run(w, acts)
	if e != api.OK || done != 12 || len(w.Events) != 1 || len(w.Tso.Buffers[0]) != 1 || w.Tso.Memory.Words[2] != 0 {
		t.Fatalf("%v, %d, %v", w, done, e)
	}
	var others []api.Act
	for range 100 {
		others = append(others, api.Act{Thread: 1}, api.Act{Kind: api.AFlush, Thread: 1}, api.Act{Thread: 2}, api.Act{Kind: api.AFlush, Thread: 2})
	}
	w, _, e = sched.Run(w, others)
	if e != api.OK || len(w.Events) != 1 || w.Tso.Memory.Words[1] != 1 || w.Tso.Memory.Words[2] != 0 {
		t.Fatalf("%v, %v", w, e)
	}
	// Unlock waits till the count is there for all.
	w, _, e = sched.Run(w, slices.Repeat(acts, 3))
	if e != api.OK || len(w.Events) != 2 || w.Tso.Memory.Words[1] != 1 || w.Tso.Memory.Words[2] != 0 {
		t.Fatalf("%v, %v", w, e)
	}
	w, _, e = sched.Run(w, []api.Act{{Kind: api.AFlush, Thread: 0}, {Thread: 0}})
	if e != api.OK || w.Tso.Memory.Words[1] != 0 || w.Tso.Memory.Words[2] != 1 {
		t.Fatalf("%v, %v", w, e)
	}
	ended(t, w, turns, 10000)
}

// R1, R4: no call keeps anything, and no two worlds share a list.
func TestAnswersShareNothing(t *testing.T) {
	for _, turns := range right() {
		text := spin.Text()
		program, _ := spin.Program(turns)
		first, other := made(t, turns, 2), made(t, turns, 2)
		was := told(other)
		for i := range first.Code {
			first.Code[i] = api.Instr{Op: 99, A: 99}
		}
		for i := range first.Threads {
			first.Threads[i].Pc = 99
			first.Tso.Buffers[i] = []api.Put{{At: 9}}
		}
		for i := range first.Tso.Memory.Words {
			first.Tso.Memory.Words[i], first.Tso.Memory.Tags[i] = 9, 9
		}
		spin.World(nil, 99)
		spin.Program(slices.Repeat([]int{9}, 8))
		again, e := spin.Program(turns)
		if spin.Text() != text || again != program || e != api.OK || told(other) != was || told(made(t, turns, 2)) != was {
			t.Errorf("%v: an answer changes another one", turns)
		}
	}
}

// P1: every call ends, and none panics, at arguments of all kinds.
func TestEveryCallEnds(t *testing.T) {
	numbers := []int{least, -1, 0, 1, 8, 9, 10, most}
	for _, a := range numbers {
		for _, b := range numbers {
			for _, depth := range numbers {
				turns := []int{a, b}
				good := a >= 0 && a <= 9 && b >= 0 && b <= 9
				if s, e := spin.Program(turns); (e == api.OK) != good || e != api.OK && (e != api.ErrSize || s != "") {
					t.Errorf("%v: %q, %v", turns, s, e)
				}
				if w, e := spin.World(turns, depth); (e == api.OK) != (good && depth >= 0 && depth <= 8) || step.Right(w) != (e == api.OK) || e != api.OK && e != api.ErrSize {
					t.Errorf("%v, %d: %v, %v", turns, depth, w, e)
				}
			}
		}
	}
}
