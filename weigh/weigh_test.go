package weigh_test

import (
	"fmt"
	"math"
	"math/rand"
	"slices"
	"testing"

	"respite/api"
	"respite/sched"
	"respite/weigh"
)

const (
	most     = math.MaxInt
	least    = math.MinInt
	smallest = math.SmallestNonzeroFloat64
	greatest = math.MaxFloat64
	// The least float that is not subnormal.
	normal = 0x1p-1022
)

var (
	minus = math.Copysign(0, -1)
	inf   = math.Inf(1)
	nan   = math.NaN()
)

// nans are of both signs, quiet and not, with little and much beside.
func nans() []float64 {
	var l []float64
	for _, bits := range []uint64{0x7ff8000000000000, 0xfff8000000000000, 0x7ff0000000000001, 0xfff0000000000001, 0x7fffffffffffffff, 0xffffffffffffffff, 0x7ff8000000000001} {
		l = append(l, math.Float64frombits(bits))
	}
	return l
}

// climbing are numbers each of which comes ahead of those behind it, with no NaN among them.
func climbing() []float64 {
	up := []float64{smallest, 2 * smallest, normal - smallest, normal, 0x1p-1000, 0x1p-24, 0.1, 1 - 0x1p-53, 1, 1 + 0x1p-52, 1 + 0x1p-51, 2, 16777216, 16777217, 1 << 53, 1<<53 + 2, 0x1p127, 0x1p128, 0x1p1000, math.Nextafter(greatest, 0), greatest, inf}
	var l []float64
	for _, x := range slices.Backward(up) {
		l = append(l, -x)
	}
	return slices.Concat(l, []float64{minus, 0}, up)
}

// rank is a number's place among all, by its bits: it is less for what comes ahead, and the same for what is alike.
func rank(x float64) int {
	bits := int(math.Float64bits(x) &^ (1 << 63))
	if bits > 0x7ff0000000000000 {
		return most
	}
	if math.Float64bits(x)>>63 == 1 {
		return -1 - bits
	}
	return bits
}

// bits are the numbers' own ones, by which each NaN and each 0 differs from the others.
func bits(l []float64) string {
	var all []uint64
	for _, x := range l {
		all = append(all, math.Float64bits(x))
	}
	return fmt.Sprintf("%x", all)
}

// picked is what is picked, n times, of weights that may be.
func picked(t *testing.T, weights []float64, n int) []int {
	t.Helper()
	was := bits(weights)
	p, e := weigh.Picks(weights, n)
	if e != api.OK || len(p) != n {
		t.Fatalf("%v, %d: %v, %v", weights, n, p, e)
	}
	if bits(weights) != was {
		t.Errorf("%s was changed: %v", was, weights)
	}
	return p
}

// picks holds what is picked of weights.
func picks(t *testing.T, weights []float64, want ...int) {
	t.Helper()
	if p := picked(t, weights, len(want)); !slices.Equal(p, want) {
		t.Errorf("%v: %v, want %v", weights, p, want)
	}
}

// pass is what a weight's pass is, behind so many picks of it.
func pass(weight float64, many int) float64 {
	p := 0.0
	for range many {
		q := 1 / weight
		p = float64(p) + float64(q)
	}
	return p
}

// reckoned is the chapter's word for what is picked: of those that count, by how often each was till then, the one whose pass has the least rank.
func reckoned(weights []float64, n int) []int {
	var l []int
	shares := make([]int, len(weights))
	for range n {
		best := -1
		for i := len(weights) - 1; i >= 0; i-- {
			if r := rank(weights[i]); r <= 0 || r == most {
				continue
			}
			if best < 0 || rank(pass(weights[i], shares[i])) <= rank(pass(weights[best], shares[best])) {
				best = i
			}
		}
		shares[best]++
		l = append(l, best)
	}
	return l
}

// The chapter's examples.
func TestExamples(t *testing.T) {
	picks(t, []float64{1, 2}, 0, 1, 1, 0, 1, 1)
	picks(t, []float64{nan, minus, 3}, 2, 2, 2)
	picks(t, []float64{inf, 1}, 0, 0, 0)
}

// P10.1: less is ahead, -0 of 0 too, and NaN is behind all.
func TestLess(t *testing.T) {
	l := climbing()
	for i, a := range l {
		for k, b := range l {
			if is := weigh.Less(a, b); is != (i < k) {
				t.Errorf("%v, %v: %v", a, b, is)
			}
		}
		for _, n := range nans() {
			if !weigh.Less(a, n) {
				t.Errorf("%v does not come ahead of NaN", a)
			}
			if weigh.Less(n, a) {
				t.Errorf("NaN comes ahead of %v", a)
			}
		}
	}
	for _, a := range nans() {
		for _, b := range nans() {
			if weigh.Less(a, b) {
				t.Errorf("NaN %x comes ahead of %x", math.Float64bits(a), math.Float64bits(b))
			}
		}
	}
}

// P10.1: numbers of any bits are put in order by these.
func TestLessThrown(t *testing.T) {
	r := rand.New(rand.NewSource(1))
	for range 200000 {
		x := r.Uint64()
		y := r.Uint64()
		switch r.Intn(4) {
		case 0:
			y = x ^ 1<<63
		case 1:
			y = x ^ 1<<r.Intn(64)
		case 2:
			y = x + uint64(r.Intn(5)) - 2
		}
		a, b := math.Float64frombits(x), math.Float64frombits(y)
		if is := weigh.Less(a, b); is != (rank(a) < rank(b)) {
			t.Errorf("%v (%x), %v (%x): %v", a, x, b, y, is)
		}
	}
}

// leastOf holds the first place of the least rank.
func leastOf(t *testing.T, l []float64) {
	t.Helper()
	want := 0
	for i := range l {
		if rank(l[i]) < rank(l[want]) {
			want = i
		}
	}
	was := bits(l)
	if n, e := weigh.Least(l); n != want || e != api.OK {
		t.Errorf("%v: %d, %v, want %d", l, n, e, want)
	}
	if bits(l) != was {
		t.Errorf("%s was changed: %v", was, l)
	}
}

// P10.1: the first of those that no other one comes ahead of, by hand.
func TestLeast(t *testing.T) {
	rows := []struct {
		l    []float64
		want int
	}{
		{[]float64{5}, 0}, {[]float64{nan}, 0}, {[]float64{inf}, 0}, {[]float64{minus}, 0},
		{[]float64{1, 2}, 0}, {[]float64{2, 1}, 1}, {[]float64{1, 1}, 0}, {[]float64{3, 2, 2, 1, 1, 2}, 3},
		{[]float64{0, minus}, 1}, {[]float64{minus, 0}, 0}, {[]float64{0, 0, minus, 0, minus}, 2}, {[]float64{0, minus, -smallest}, 2},
		{[]float64{nan, inf}, 1}, {[]float64{inf, nan}, 0}, {[]float64{nan, nan, nan}, 0}, {[]float64{nan, 5, nan, 4, nan}, 3},
		{[]float64{inf, -inf, nan}, 1}, {[]float64{1 + 0x1p-52, 1}, 1}, {[]float64{smallest, 0, minus, nan}, 2},
	}
	for _, row := range rows {
		if n, e := weigh.Least(row.l); n != row.want || e != api.OK {
			t.Errorf("%v: %d, %v, want %d", row.l, n, e, row.want)
		}
	}
	for _, l := range [][]float64{nil, {}, make([]float64, 0, 3)} {
		if n, e := weigh.Least(l); n != 0 || e != api.ErrNone {
			t.Error(l, n, e)
		}
	}
}

// edges are the numbers at which something turns.
func edges() []float64 {
	return []float64{nan, -nan, -inf, -1, -smallest, minus, 0, smallest, normal, 0.1, 1, 1 + 0x1p-40, 2, 3, greatest, inf}
}

// rows are all rows of so many edges.
func rows(many int) [][]float64 {
	all := [][]float64{nil}
	for range many {
		var next [][]float64
		for _, row := range all {
			for _, x := range edges() {
				next = append(next, append(slices.Clone(row), x))
			}
		}
		all = next
	}
	return all
}

// P10.1: all rows of up to four edges, and longer ones in which much is alike; there is no limit to how long one is.
func TestLeastOfAll(t *testing.T) {
	for many := 1; many <= 4; many++ {
		for _, l := range rows(many) {
			leastOf(t, l)
		}
	}
	r := rand.New(rand.NewSource(2))
	for range 5000 {
		l := make([]float64, 1+r.Intn(40))
		from := r.Intn(len(edges()))
		for i := range l {
			l[i] = edges()[from+r.Intn(len(edges())-from)]
		}
		leastOf(t, l)
	}
	long := slices.Repeat([]float64{nan, inf, 0}, 30000)
	leastOf(t, long)
	long[80000] = minus
	leastOf(t, long)
}

// P10.2: too many weights, or too many picks or fewer than none, come ahead of all else.
func TestPicksSize(t *testing.T) {
	sized := func(weights []float64, n int) {
		t.Helper()
		if p, e := weigh.Picks(weights, n); e != api.ErrSize || len(p) != 0 {
			t.Errorf("%v, %d: %v, %v", weights, n, p, e)
		}
	}
	for _, weight := range edges() {
		for _, many := range []int{9, 10, 16, 100, 256, 257, 1000} {
			for _, n := range []int{least, -1, 0, 1, 2, 1000, 1001, most} {
				sized(slices.Repeat([]float64{weight}, many), n)
			}
		}
		for many := range 9 {
			for _, n := range []int{least, -1000, -2, -1, 1001, 1002, 1 << 16, 1 << 32, most} {
				sized(slices.Repeat([]float64{weight}, many), n)
			}
		}
	}
}

// P10.2: where no weight counts nobody can be picked, but for no times.
func TestPicksNone(t *testing.T) {
	idle := slices.Concat(nans(), []float64{minus, 0, -smallest, -1, -inf, -greatest})
	for many := range 9 {
		for from := range idle {
			var weights []float64
			for i := range many {
				weights = append(weights, idle[(from+i)%len(idle)])
			}
			for _, n := range []int{1, 2, 8, 999, 1000} {
				if p, e := weigh.Picks(weights, n); e != api.ErrNone || len(p) != 0 {
					t.Errorf("%v, %d: %v, %v", weights, n, p, e)
				}
			}
			picks(t, weights)
			for place := range many {
				one := slices.Clone(weights)
				one[place] = smallest
				picks(t, one, slices.Repeat([]int{place}, 1000)...)
				picks(t, one)
			}
		}
	}
	picks(t, nil)
	picks(t, []float64{})
}

// P10.2: what is picked, by hand.
func TestPicks(t *testing.T) {
	picks(t, []float64{1}, 0, 0, 0, 0)
	picks(t, []float64{5, 5, 5}, 0, 1, 2, 0, 1, 2, 0)
	picks(t, []float64{2, 1}, 0, 1, 0, 0, 1, 0, 0)
	picks(t, []float64{0.5, 0.25}, 0, 1, 0, 0, 1, 0, 0)
	picks(t, []float64{1, 2, 4}, 0, 1, 2, 2, 1, 2, 2, 0, 1, 2, 2, 1, 2, 2)
	picks(t, []float64{3, 0, 1, -2, nan}, 0, 2, 0, 0, 0, 2)
	// A pass is what was added, not what would be multiplied: ten times a tenth is less than 1.
	picks(t, []float64{1, 10}, 0, 1, 1, 1, 1, 1, 1, 1, 1, 1, 1, 1, 0, 1, 1)
	// Weights are held to their last bit.
	picks(t, []float64{1, 1 + 0x1p-40}, 0, 1, 1, 0, 1, 0)
	picks(t, []float64{1, 1 + 0x1p-52}, 0, 1, 1, 0, 1, 0)
	picks(t, []float64{1 + 0x1p-52, 1}, 0, 1, 0, 1, 0, 1)
	// One that is infinite has a pass of 0 for ever, and the first such is picked each time.
	picks(t, []float64{1, 2, inf, inf}, 0, 1, 2, 2, 2, 2, 2)
	picks(t, []float64{inf, inf}, 0, 0, 0)
	// One divided by less than 2^-1024 is infinite; then all that are so are alike.
	picks(t, []float64{smallest, greatest}, 0, 1, 1, 1, 1)
	picks(t, []float64{smallest, smallest, smallest}, 0, 1, 2, 0, 0, 0)
	picks(t, []float64{0x1p-1024, 0x1p-1023}, 0, 1, 1, 0, 0)
	picks(t, []float64{smallest, inf, smallest}, 0, 1, 1, 1)
	// One divided by the greatest is subnormal, and is no 0.
	picks(t, []float64{greatest, greatest}, 0, 1, 0, 1, 0, 1)
	picks(t, []float64{greatest, inf}, 0, 1, 1, 1)
}

// P10.2: all rows of up to three edges, against the chapter's words.
func TestPicksOfAll(t *testing.T) {
	for many := range 4 {
		for _, weights := range rows(many) {
			if p, e := weigh.Picks(weights, 1); e == api.ErrNone && len(p) == 0 && len(weights) == len(uncounted(weights)) {
				continue
			}
			picks(t, weights, reckoned(weights, 12)...)
		}
	}
}

// uncounted are the weights that do not count.
func uncounted(weights []float64) []float64 {
	var l []float64
	for _, x := range weights {
		if r := rank(x); r <= 0 || r == most {
			l = append(l, x)
		}
	}
	return l
}

// thrown are up to eight weights, one of which counts at least.
func thrown(r *rand.Rand) []float64 {
	l := make([]float64, 1+r.Intn(8))
	kind := r.Intn(4)
	for i := range l {
		switch kind {
		case 0:
			l[i] = float64(1 + r.Intn(12))
		case 1:
			l[i] = r.Float64() + 0.01
		case 2:
			l[i] = math.Ldexp(1+r.Float64(), r.Intn(2098)-1074)
		default:
			l[i] = edges()[r.Intn(len(edges()))]
		}
	}
	if len(uncounted(l)) == len(l) {
		l[r.Intn(len(l))] = 7
	}
	return l
}

// P10.2: thrown weights, against the chapter's words; fewer picks are the first ones.
func TestPicksThrown(t *testing.T) {
	r := rand.New(rand.NewSource(3))
	for range 2000 {
		weights, n := thrown(r), 1+r.Intn(90)
		picks(t, weights, reckoned(weights, n)...)
		all := picked(t, weights, 1000)
		picks(t, weights, all[:n]...)
		picks(t, weights, all[:999]...)
	}
}

// P10.2: a thousand picks, to the last, against the chapter's words.
func TestThousandPicks(t *testing.T) {
	for _, weights := range [][]float64{{1, 10}, {3, 7, 0.1}, {1, 1.0 / 3, 1e300, 1e-300}, {1, 2, 3, 4, 5, 6, 7, 8}, {0.7, nan, 0.7, 0, 0.1}} {
		picks(t, weights, reckoned(weights, 1000)...)
	}
}

// P10.2: weights that do not count change nothing but the places.
func TestUncounted(t *testing.T) {
	r := rand.New(rand.NewSource(4))
	idle := slices.Concat(nans(), []float64{minus, 0, -smallest, -1, -inf})
	for range 2000 {
		var weights []float64
		var at []int
		all := make([]float64, 8)
		for i := range all {
			all[i] = idle[r.Intn(len(idle))]
			if r.Intn(2) == 0 || i == 7 && at == nil {
				all[i] = 1 + 10*r.Float64()
				weights, at = append(weights, all[i]), append(at, i)
			}
		}
		want := picked(t, weights, 60)
		for i, p := range want {
			want[i] = at[p]
		}
		picks(t, all, want...)
	}
}

// P10.3: how often each was picked; each place has a share, if only of none.
func TestShares(t *testing.T) {
	rows := []struct {
		chosen []int
		many   int
		want   []int
	}{
		{nil, 0, nil}, {[]int{}, 0, nil}, {nil, 1, []int{0}}, {nil, 8, make([]int, 8)}, {[]int{0}, 1, []int{1}}, {[]int{0}, 2, []int{1, 0}},
		{[]int{2, 0, 2}, 3, []int{1, 0, 2}}, {[]int{7, 7, 0, 7}, 8, []int{1, 0, 0, 0, 0, 0, 0, 3}}, {[]int{1, 2, 3, 4}, 5, []int{0, 1, 1, 1, 1}},
		{slices.Repeat([]int{1}, 70000), 2, []int{0, 70000}},
	}
	for _, row := range rows {
		was := slices.Clone(row.chosen)
		if s, e := weigh.Shares(row.chosen, row.many); e != api.OK || !slices.Equal(s, row.want) {
			t.Errorf("%.20v, %d: %v, %v, want %v", row.chosen, row.many, s, e, row.want)
		}
		if !slices.Equal(row.chosen, was) {
			t.Errorf("%.20v was changed: %.20v", was, row.chosen)
		}
	}
	r := rand.New(rand.NewSource(5))
	for range 2000 {
		many := 1 + r.Intn(8)
		want := make([]int, many)
		var chosen []int
		for range r.Intn(50) {
			p := r.Intn(many)
			want[p]++
			chosen = append(chosen, p)
		}
		if s, e := weigh.Shares(chosen, many); e != api.OK || !slices.Equal(s, want) {
			t.Errorf("%v, %d: %v, %v, want %v", chosen, many, s, e, want)
		}
	}
}

// P10.3: a wrong number of places comes ahead of a wrong pick, wherever that stands.
func TestSharesErrors(t *testing.T) {
	refuses := func(chosen []int, many int, want api.Errno) {
		t.Helper()
		if s, e := weigh.Shares(chosen, many); e != want || len(s) != 0 {
			t.Errorf("%v, %d: %v, %v, want %v", chosen, many, s, e, want)
		}
	}
	for _, many := range []int{least, -8, -1, 9, 10, 256, 257, 1 << 32, 1<<32 + 1, most} {
		for _, chosen := range [][]int{nil, {}, {0}, {0, 0}, {8}, {-1}, {most}, {many}} {
			refuses(chosen, many, api.ErrSize)
		}
	}
	for many := range 9 {
		for _, wrong := range []int{least, -8, -1, many, many + 1, 9, 256, 1 << 32, most} {
			refuses([]int{wrong}, many, api.ErrRange)
			refuses([]int{wrong, wrong}, many, api.ErrRange)
			if many > 0 {
				refuses([]int{many - 1, 0, wrong}, many, api.ErrRange)
				refuses([]int{wrong, 0, many - 1}, many, api.ErrRange)
				refuses([]int{0, wrong, 0, most}, many, api.ErrRange)
			}
		}
	}
}

// P10.3: a step and a flush of each pick's thread, whatever that is.
func TestActs(t *testing.T) {
	var want []api.Act
	all := []int{5, 0, 0, 7, 1, 8, -1, least, most, 1000, 5}
	for n := range len(all) + 1 {
		was := slices.Clone(all)
		if a := weigh.Acts(all[:n]); !slices.Equal(a, want) {
			t.Errorf("%v: %v, want %v", all[:n], a, want)
		}
		if !slices.Equal(all, was) {
			t.Errorf("%v was changed: %v", was, all)
		}
		if n < len(all) {
			want = append(want, api.Act{Kind: 0, Thread: all[n]}, api.Act{Kind: 1, Thread: all[n]})
		}
	}
	if a := weigh.Acts(nil); len(a) != 0 {
		t.Error(a)
	}
	if a := weigh.Acts(make([]int, 50000)); len(a) != 100000 || a[99998] != (api.Act{Kind: api.AStep}) || a[99999] != (api.Act{Kind: api.AFlush}) {
		t.Error(len(a))
	}
}

// P10.3: threads of a world go on as often as they are picked, each with its flush behind its step.
func TestActsOfWorlds(t *testing.T) {
	weights := []float64{1, nan, 3, 0.5}
	m := api.Memory{Words: make([]int, 5), Tags: []int{0, 1, 1, 1, 1}}
	w, e := sched.New("a:\nself r1\nb:\nplus r2 r2 1\nstore r2 r1 1\njump b\n", slices.Repeat([]string{"a"}, 4), m, 1)
	if e != api.OK {
		t.Fatal(e)
	}
	chosen := picked(t, weights, 300)
	shares, _ := weigh.Shares(chosen, 4)
	got, _, e := sched.Run(w, weigh.Acts(chosen))
	if e != api.OK {
		t.Fatal(e)
	}
	for i, n := range shares {
		// The first step tells who it is; of each three more the second one stores.
		if want := n / 3; got.Tso.Memory.Words[i+1] != want || len(got.Tso.Buffers[i]) != 0 {
			t.Errorf("thread %d, picked %d times: %v", i, n, got)
		}
	}
}

// P10.4: like weights take turns, from 2^-1000 to 2^1000.
func TestTurns(t *testing.T) {
	var turns [9][]int
	for many := 1; many <= 8; many++ {
		for i := range 1000 {
			turns[many] = append(turns[many], i%many)
		}
	}
	for power := -1000; power <= 1000; power++ {
		for i, part := range []float64{1, 1.1, 4.0 / 3, 2 - 0x1p-52} {
			weight := math.Ldexp(part, power)
			if weight > 0x1p1000 {
				continue
			}
			for many := 1; many <= 8; many++ {
				// All of them at the ends and in the middle, and some of them in between.
				if power%500 == 0 || (power+1000+i+many)%37 == 0 {
					picks(t, slices.Repeat([]float64{weight}, many), turns[many]...)
				}
			}
		}
	}
}

// P10.4: such weights, all twice as great, make the same picks.
func TestTwiceAsGreat(t *testing.T) {
	r := rand.New(rand.NewSource(6))
	for range 1500 {
		var weights, twice []float64
		low := r.Intn(2000) - 1000
		span := []int{1, 3, 20, 2000}[r.Intn(4)]
		for range 1 + r.Intn(8) {
			part := 1 + r.Float64()
			if r.Intn(3) == 0 {
				part = 1
			}
			weight := math.Ldexp(part, min(low+r.Intn(span), 999))
			weights, twice = append(weights, weight), append(twice, 2*weight)
		}
		picks(t, twice, picked(t, weights, 1000)...)
	}
	for many := 1; many <= 8; many++ {
		for _, weight := range []float64{0x1p-1000, 0x1p1000} {
			weights, twice := slices.Repeat([]float64{weight}, many), slices.Repeat([]float64{2 * weight}, many)
			weights[many-1], twice[many-1] = 1, 2
			picks(t, twice, picked(t, weights, 1000)...)
		}
	}
}

// P10.4: nobody is picked as long as somebody's pass is less, nor as long as the pass of one ahead of it is the same.
func TestNobodyAheadOfLess(t *testing.T) {
	r := rand.New(rand.NewSource(7))
	for range 1000 {
		weights := thrown(r)
		passes := make([]float64, len(weights))
		for n, p := range picked(t, weights, 200) {
			if !(weights[p] > 0) {
				t.Fatalf("%v: %d is picked, which does not count", weights, p)
			}
			for i := range weights {
				if weights[i] > 0 && (passes[i] < passes[p] || i < p && passes[i] == passes[p]) {
					t.Fatalf("%v: pick %d is %d, of pass %v, and %d has %v", weights, n, p, passes[p], i, passes[i])
				}
			}
			passes[p] += float64(1 / weights[p])
		}
	}
}

// R1, R4, and more: what is done twice is the same; answers share no list with what was handed in, nor with each other.
func TestAnswersShareNothing(t *testing.T) {
	weights := []float64{1, 2, 3, 99}[:3]
	row := []int{2, 0, 2, 1, 99}[:4]
	one, _ := weigh.Picks(weights, 9)
	two, _ := weigh.Picks(weights, 9)
	is := slices.Clone(one)
	fill(two, -9)
	three, _ := weigh.Picks(weights, 9)
	if !slices.Equal(one, is) || !slices.Equal(three, is) || !slices.Equal(weights[:4], []float64{1, 2, 3, 99}) {
		t.Error(one, is, three, weights)
	}
	for _, many := range []int{3, 4, 5} {
		one, _ := weigh.Shares(row, many)
		two, _ := weigh.Shares(row, many)
		is := slices.Clone(one)
		fill(two, -9)
		three, _ := weigh.Shares(row, many)
		if !slices.Equal(one, is) || !slices.Equal(three, is) || !slices.Equal(row[:5], []int{2, 0, 2, 1, 99}) {
			t.Error(one, is, three, row)
		}
	}
	a, b := weigh.Acts(row), weigh.Acts(row)
	was := slices.Clone(a)
	fill(b, api.Act{Kind: -9})
	if c := weigh.Acts(row); !slices.Equal(a, was) || !slices.Equal(c, was) || !slices.Equal(row[:5], []int{2, 0, 2, 1, 99}) {
		t.Error(a, was, c, row)
	}
}

// fill has all of a list, and what has room behind it, be v.
func fill[T any](list []T, v T) {
	list = list[:cap(list)]
	for k := range list {
		list[k] = v
	}
}

// P1: every call ends, and none panics, at arguments of all kinds; beside an error there is nothing.
func TestEveryCallEnds(t *testing.T) {
	numbers := []int{least, -1000, -1, 0, 1, 2, 7, 8, 9, 999, 1000, 1001, most}
	r := rand.New(rand.NewSource(8))
	for range 3000 {
		weights := make([]float64, r.Intn(12))
		for i := range weights {
			weights[i] = math.Float64frombits(r.Uint64())
			if r.Intn(2) == 0 {
				weights[i] = edges()[r.Intn(len(edges()))]
			}
		}
		n := numbers[r.Intn(len(numbers))]
		p, e := weigh.Picks(weights, n)
		if e != api.OK && len(p) != 0 || e == api.OK && len(p) != n {
			t.Errorf("%v, %d: %v, %v", weights, n, p, e)
		}
		if place, e := weigh.Least(weights); e != api.OK && place != 0 || (e == api.OK) != (len(weights) > 0) {
			t.Errorf("%v: %d, %v", weights, place, e)
		}
		row := make([]int, r.Intn(4))
		for i := range row {
			row[i] = numbers[r.Intn(len(numbers))]
		}
		if s, e := weigh.Shares(row, n); e != api.OK && len(s) != 0 || e == api.OK && len(s) != n {
			t.Errorf("%v, %d: %v, %v", row, n, s, e)
		}
		if a := weigh.Acts(row); len(a) != 2*len(row) {
			t.Errorf("%v: %v", row, a)
		}
	}
}
