package clock_test

import (
	"math"
	"math/rand"
	"slices"
	"sync"
	"testing"

	"starling/api"
	"starling/clock"
)

const top = 1000000 // the last number

// vector is the numbers of the first nodes; those of the others are 0.
func vector(first ...int) api.Vector {
	var v api.Vector
	copy(v[:], first)
	return v
}

// full is a vector in which all numbers are n.
func full(n int) api.Vector {
	return vector(n, n, n, n, n, n, n, n)
}

// but is v with another number for one node.
func but(v api.Vector, node, n int) api.Vector {
	v[node] = n
	return v
}

func dot(node, n int) api.Dot {
	return api.Dot{Node: node, N: n}
}

// numbers are those at which a call may answer otherwise, and their neighbours,
// and numbers that are one of them in fewer bits. They stand in order.
func numbers() []int {
	return []int{
		math.MinInt, math.MinInt + 1, -1 << 32, -top, -2, -1, 0, 1, 2, 3, 6, 7, 8, 9,
		255, 256, top - 1, top, top + 1, 1 << 32, 1<<32 + 1, math.MaxInt - 1, math.MaxInt,
	}
}

// everyDot is every dot made of numbers, in order.
func everyDot() []api.Dot {
	var l []api.Dot
	for _, node := range numbers() {
		for _, n := range numbers() {
			l = append(l, dot(node, n))
		}
	}
	return l
}

// bases are vectors of which one number is to be changed.
func bases() []api.Vector {
	return []api.Vector{
		full(0), full(5), full(top), full(-1), full(top + 1),
		vector(7, 6, 5, 4, 3, 2, 1, 0), vector(0, 1, 2, 3, 4, 5, 6, 7),
	}
}

// everyVector is every vector that differs from one of bases in one number.
func everyVector() []api.Vector {
	var l []api.Vector
	for _, v := range bases() {
		for node := range 8 {
			for _, n := range numbers() {
				l = append(l, but(v, node, n))
			}
		}
	}
	return l
}

// drawn is a vector of any numbers, valid or not.
func drawn(r *rand.Rand) api.Vector {
	var v api.Vector
	l := numbers()
	for node := range v {
		v[node] = l[r.Intn(len(l))]
	}
	return v
}

// isBelow is what the chapter says: no number of a is greater than that of b.
func isBelow(a, b api.Vector) bool {
	for node := range 8 {
		if a[node] > b[node] {
			return false
		}
	}
	return true
}

// P13.1
func TestMay(t *testing.T) {
	for _, x := range []struct {
		name string
		v    api.Vector
		want bool
	}{
		{"nothing is known", vector(), true},
		{"all of it is known", full(top), true},
		{"some is known", vector(3, 0, 1, 41, 0, 0, 9, 2), true},
		{"the first number is the last one", vector(top), true},
		{"the last number is the last one", but(full(0), 7, top), true},
		{"the first number is negative", vector(-1), false},
		{"the last number is negative", but(full(top), 7, -1), false},
		{"a number in the middle is negative", vector(1, 2, 3, -1, 5), false},
		{"the first number is too great", vector(top + 1), false},
		{"the last number is too great", but(full(0), 7, top+1), false},
		{"a number in the middle is too great", vector(1, 2, 3, top+1, 5), false},
		{"all are negative", full(-1), false},
		{"all are too great", full(top + 1), false},
		{"the smallest number of all", vector(0, math.MinInt), false},
		{"the greatest number of all", vector(0, math.MaxInt), false},
		{"a number that is 1 in fewer bits", vector(0, 1<<32+1), false},
		{"numbers whose sum is 0", vector(-1, 1), false},
	} {
		if got := clock.May(x.v); got != x.want {
			t.Errorf("%s: May(%v) = %v", x.name, x.v, got)
		}
	}
}

// P13.1
func TestMayOfEveryEdge(t *testing.T) {
	for _, v := range everyVector() {
		want := slices.Min(v[:]) >= 0 && slices.Max(v[:]) <= top
		if got := clock.May(v); got != want {
			t.Errorf("May(%v) = %v", v, got)
		}
	}
}

// P13.1
func TestJoin(t *testing.T) {
	for _, x := range []struct {
		name       string
		a, b, want api.Vector
	}{
		{"nothing and nothing", vector(), vector(), vector()},
		{"nothing and something", vector(), vector(3, 0, 1), vector(3, 0, 1)},
		{"something and nothing", vector(3, 0, 1), vector(), vector(3, 0, 1)},
		{"each knows what the other does not", vector(3, 0, 1), vector(2, 5, 1, 9), vector(3, 5, 1, 9)},
		{"the first nodes and the last ones", vector(1, 2, 3, 4), vector(0, 0, 0, 0, 5, 6, 7, 8), vector(1, 2, 3, 4, 5, 6, 7, 8)},
		{"the same", vector(3, 0, 1), vector(3, 0, 1), vector(3, 0, 1)},
		{"up to the last number", full(top - 1), but(full(0), 7, top), but(full(top-1), 7, top)},
		{"negative numbers", vector(-1, -9), vector(-2, -8), vector(-1, -8)},
		{"a negative number is less than none", full(-1), vector(), vector()},
		{"numbers that are too great", full(top + 1), full(top), full(top + 1)},
		{"numbers as far apart as can be", vector(math.MinInt, math.MaxInt), vector(math.MaxInt, math.MinInt), vector(math.MaxInt, math.MaxInt)},
	} {
		if got := clock.Join(x.a, x.b); got != x.want {
			t.Errorf("%s: Join(%v, %v) = %v", x.name, x.a, x.b, got)
		}
		if got := clock.Join(x.b, x.a); got != x.want {
			t.Errorf("%s: Join(%v, %v) = %v", x.name, x.b, x.a, got)
		}
	}
}

// P13.1
func TestBelow(t *testing.T) {
	for _, x := range []struct {
		name string
		a, b api.Vector
		want bool
	}{
		{"nothing and nothing", vector(), vector(), true},
		{"nothing and something", vector(), vector(3, 0, 1), true},
		{"something and nothing", vector(3, 0, 1), vector(), false},
		{"the same", vector(3, 0, 1), vector(3, 0, 1), true},
		{"one is greater in b", vector(3, 0, 1), vector(3, 0, 2), true},
		{"one is greater in a", vector(3, 0, 2), vector(3, 0, 1), false},
		{"all are greater in b", full(4), full(5), true},
		{"all are greater in a", full(5), full(4), false},
		{"each knows what the other does not", vector(3, 0), vector(2, 5), false},
		{"and the other way about", vector(2, 5), vector(3, 0), false},
		{"the first one alone is greater in a", vector(1), full(0), false},
		{"the last one alone is greater in a", but(full(4), 7, 6), full(5), false},
		{"a negative number is less than none", vector(-5), vector(), true},
		{"none is greater than a negative number", vector(), vector(-5), false},
		{"numbers that are too great", full(top + 1), full(top + 2), true},
		{"numbers that are too great, the other way about", full(top + 2), full(top + 1), false},
		{"numbers as far apart as can be", full(math.MinInt), full(math.MaxInt), true},
		{"numbers as far apart as can be, the other way about", full(math.MaxInt), full(math.MinInt), false},
		{"sums that are equal", vector(2, 4), vector(3, 3), false},
	} {
		if got := clock.Below(x.a, x.b); got != x.want {
			t.Errorf("%s: Below(%v, %v) = %v", x.name, x.a, x.b, got)
		}
	}
}

// P13.1: the numbers of one node are held against each other, and not those of
// two nodes.
func TestJoinAndBelowOfEveryPair(t *testing.T) {
	for _, base := range bases() {
		for node := range 8 {
			for _, n := range numbers() {
				for _, m := range numbers() {
					a, b := but(base, node, n), but(base, node, m)
					if got := clock.Join(a, b); got != but(base, node, max(n, m)) {
						t.Errorf("Join(%v, %v) = %v", a, b, got)
					}
					if got := clock.Below(a, b); got != (n <= m) {
						t.Errorf("Below(%v, %v) = %v", a, b, got)
					}
				}
			}
		}
	}
}

// P13.1: the example, and the rows beside it.
func TestHas(t *testing.T) {
	v := vector(2, 0, 5, top, 0, -3, top+7, 1)
	for _, x := range []struct {
		name string
		d    api.Dot
		want bool
	}{
		{"the example", dot(0, 2), true},
		{"the first write", dot(0, 1), true},
		{"a write after the last known one", dot(0, 3), false},
		{"no write has the number 0", dot(0, 0), false},
		{"nor a negative number", dot(0, -1), false},
		{"nothing is known of this node", dot(1, 1), false},
		{"no write, of a node of which nothing is known", dot(1, 0), false},
		{"in the middle", dot(2, 4), true},
		{"the last write of all", dot(3, top), true},
		{"after the last write of all", dot(3, top+1), false},
		{"a number that is 1 in fewer bits", dot(2, 1<<32+1), false},
		{"no write, of a negative number", dot(5, 0), false},
		{"a negative number is no write", dot(5, -3), false},
		{"nor a smaller one", dot(5, -4), false},
		{"a known number that is too great", dot(6, top+7), true},
		{"after a known number that is too great", dot(6, top+8), false},
		{"the last node", dot(7, 1), true},
		{"the last node, not known", dot(7, 2), false},
		{"a node after the last", dot(8, 1), false},
		{"a node far after the last", dot(16, 1), false},
		{"a negative node", dot(-1, 1), false},
		{"a node that is 0 in fewer bits", dot(1<<32, 1), false},
		{"a node that is 0 in three bits", dot(-8, 1), false},
		{"the greatest numbers of all", dot(math.MaxInt, math.MaxInt), false},
		{"the smallest numbers of all", dot(math.MinInt, math.MinInt), false},
		{"no write of no node", dot(-1, 0), false},
	} {
		if got := clock.Has(v, x.d); got != x.want {
			t.Errorf("%s: Has(%v, %v) = %v", x.name, v, x.d, got)
		}
	}
}

// P13.1
func TestWith(t *testing.T) {
	v := vector(2, 0, 5, top, 0, -3, top+7, 1)
	for _, x := range []struct {
		name string
		d    api.Dot
		want api.Vector
	}{
		{"it is the known one", dot(0, 2), v},
		{"it is known already", dot(0, 1), v},
		{"it is the next one", dot(0, 3), but(v, 0, 3)},
		{"it is far ahead", dot(0, 900), but(v, 0, 900)},
		{"the first write", dot(1, 1), but(v, 1, 1)},
		{"the number 0", dot(1, 0), v},
		{"a negative number", dot(1, -1), v},
		{"up to the last number", dot(2, top), but(v, 2, top)},
		{"the last number is known", dot(3, top), v},
		{"a number that is too great", dot(3, top+1), but(v, 3, top+1)},
		{"the greatest number of all", dot(4, math.MaxInt), but(v, 4, math.MaxInt)},
		{"the smallest number of all", dot(4, math.MinInt), v},
		{"less than a negative number", dot(5, -4), v},
		{"greater than a negative number", dot(5, -2), but(v, 5, -2)},
		{"0 is greater than a negative number", dot(5, 0), but(v, 5, 0)},
		{"less than a number that is too great", dot(6, top), v},
		{"the last node", dot(7, 2), but(v, 7, 2)},
		{"a node after the last", dot(8, 9), v},
		{"a node far after the last", dot(16, 9), v},
		{"a negative node", dot(-1, 9), v},
		{"a node that is 0 in fewer bits", dot(1<<32, 9), v},
		{"a node that is 0 in three bits", dot(-8, 9), v},
		{"the greatest numbers of all", dot(math.MaxInt, math.MaxInt), v},
	} {
		if got := clock.With(v, x.d); got != x.want {
			t.Errorf("%s: With(%v, %v) = %v", x.name, v, x.d, got)
		}
	}
}

// P13.1
func TestHasAndWithOfEveryEdge(t *testing.T) {
	for _, v := range bases() {
		for _, d := range everyDot() {
			hasIt, with := false, v
			for node := range 8 {
				if d.Node == node {
					hasIt = d.N >= 1 && d.N <= v[node]
					with = but(v, node, max(v[node], d.N))
				}
			}
			if got := clock.Has(v, d); got != hasIt {
				t.Errorf("Has(%v, %v) = %v", v, d, got)
			}
			if got := clock.With(v, d); got != with {
				t.Errorf("With(%v, %v) = %v", v, d, got)
			}
		}
	}
}

// P13.1
func TestCompare(t *testing.T) {
	for _, x := range []struct {
		name string
		a, b api.Dot
		want int
	}{
		{"the same", dot(3, 4), dot(3, 4), 0},
		{"the number is greater", dot(3, 4), dot(3, 5), -1},
		{"the node is greater", dot(3, 4), dot(4, 4), -1},
		{"the node outweighs the number", dot(3, top), dot(4, 1), -1},
		{"the first and the last node", dot(0, 1), dot(7, 1), -1},
		{"the same, no dot", dot(-9, 99), dot(-9, 99), 0},
		{"a negative node", dot(-1, 9), dot(0, 1), -1},
		{"nodes after the last", dot(8, 9), dot(9, 8), -1},
		{"a negative number", dot(3, -1), dot(3, 0), -1},
		{"no number", dot(3, 0), dot(3, 1), -1},
		{"numbers that are too great", dot(3, top+1), dot(3, top+2), -1},
		{"nodes as far apart as can be", dot(math.MinInt, 1), dot(math.MaxInt, 1), -1},
		{"numbers as far apart as can be", dot(3, math.MinInt), dot(3, math.MaxInt), -1},
		{"the node outweighs numbers as far apart as can be", dot(3, math.MaxInt), dot(4, math.MinInt), -1},
	} {
		if got := clock.Compare(x.a, x.b); got != x.want {
			t.Errorf("%s: Compare(%v, %v) = %d", x.name, x.a, x.b, got)
		}
		if got := clock.Compare(x.b, x.a); got != -x.want {
			t.Errorf("%s: Compare(%v, %v) = %d", x.name, x.b, x.a, got)
		}
	}
}

// P13.1: everyDot stands in order, by what it is made of.
func TestCompareIsAnOrder(t *testing.T) {
	l := everyDot()
	for i, a := range l {
		for k, b := range l {
			want := 0
			if i < k {
				want = -1
			} else if i > k {
				want = 1
			}
			if got := clock.Compare(a, b); got != want {
				t.Errorf("Compare(%v, %v) = %d", a, b, got)
			}
		}
	}
}

// P13.2: both are below what Join returns, and it is below all else that both
// are below.
func TestJoinIsALeastUpperBound(t *testing.T) {
	r := rand.New(rand.NewSource(1))
	bounds := 0
	for range 20000 {
		a, b := drawn(r), drawn(r)
		sum := clock.Join(a, b)
		if !clock.Below(a, sum) || !clock.Below(b, sum) {
			t.Errorf("Join(%v, %v) = %v, and is not above both", a, b, sum)
		}
		// A number that is less would not be above both.
		for node := range 8 {
			less := but(sum, node, sum[node]-1)
			if sum[node] > math.MinInt && clock.Below(a, less) && clock.Below(b, less) {
				t.Errorf("Join(%v, %v) = %v, and %v is enough", a, b, sum, less)
			}
		}
		above := clock.Join(clock.Join(drawn(r), a), b)
		for _, c := range []api.Vector{drawn(r), above, full(math.MaxInt)} {
			if isBelow(a, c) && isBelow(b, c) {
				bounds++
				if !clock.Below(sum, c) {
					t.Errorf("Join(%v, %v) = %v, which is not below %v", a, b, sum, c)
				}
			}
		}
		if clock.Below(a, b) != isBelow(a, b) || clock.Below(a, b) != (sum == b) {
			t.Errorf("Below(%v, %v) = %v, and Join is %v", a, b, clock.Below(a, b), sum)
		}
	}
	if bounds < 40000 {
		t.Errorf("only %d vectors were above both", bounds)
	}
}

// P13.2: it does not matter in which order vectors are joined, or how often.
func TestJoinInAnyOrder(t *testing.T) {
	r := rand.New(rand.NewSource(2))
	for range 2000 {
		var l []api.Vector
		want := full(math.MinInt)
		for range 1 + r.Intn(9) {
			v := drawn(r)
			l = append(l, v)
			for node := range 8 {
				want[node] = max(want[node], v[node])
			}
		}
		twice := append(slices.Clone(l), l...)
		r.Shuffle(len(twice), func(i, k int) { twice[i], twice[k] = twice[k], twice[i] })
		half := r.Intn(len(twice))
		left, right := joined(twice[:half+1]), joined(twice[half:])
		if joined(l) != want || joined(twice) != want || clock.Join(left, right) != want {
			t.Errorf("%v joined are %v, and not always", l, want)
		}
	}
}

// joined is the vectors of l, of which there is one at least, joined one by one.
func joined(l []api.Vector) api.Vector {
	all := l[0]
	for _, v := range l[1:] {
		all = clock.Join(all, v)
	}
	return all
}

// P13.2: what one of two vectors has, both together have, and nothing else.
func TestJoinHasWhatEitherHas(t *testing.T) {
	r := rand.New(rand.NewSource(3))
	dots := everyDot()
	found := 0
	for range 300 {
		a, b := drawn(r), drawn(r)
		sum := clock.Join(a, b)
		for _, d := range dots {
			either := clock.Has(a, d) || clock.Has(b, d)
			if either {
				found++
			}
			if clock.Has(sum, d) != either {
				t.Errorf("%v of %v and %v: Has of Join is %v", d, a, b, !either)
			}
		}
	}
	if found == 0 {
		t.Error("no dot was known")
	}
}

// P13.2: a dot that was added is had after every Join and every With that
// follows; together they are what was added in all.
func TestWhatIsKnownIsKept(t *testing.T) {
	r := rand.New(rand.NewSource(4))
	for range 300 {
		known := [3]api.Vector{}
		told := [3][]api.Dot{}
		for range 60 {
			i, k := r.Intn(3), r.Intn(3)
			if r.Intn(2) == 0 {
				d := dot(r.Intn(8), 1+r.Intn(9))
				known[i] = clock.With(known[i], d)
				told[i] = append(told[i], d)
			} else {
				known[i] = clock.Join(known[i], known[k])
				told[i] = append(told[i], told[k]...)
				slices.SortFunc(told[i], clock.Compare)
				told[i] = slices.Compact(told[i])
			}
			checkKnown(t, known[i], told[i])
		}
	}
}

// checkKnown checks that v is valid, and knows what was told, and no more: of
// each node up to the last write that was told.
func checkKnown(t *testing.T, v api.Vector, told []api.Dot) {
	t.Helper()
	var want api.Vector
	for _, d := range told {
		want[d.Node] = max(want[d.Node], d.N)
		if !clock.Has(v, d) {
			t.Errorf("%v lacks %v", v, d)
		}
	}
	if v != want || !clock.May(v) {
		t.Errorf("%v is known of %v", v, told)
	}
}

// P13.2: With is Join with the vector that knows this dot, and what was before.
func TestWithIsAJoin(t *testing.T) {
	r := rand.New(rand.NewSource(5))
	for range 2000 {
		v, d := drawn(r), dot(r.Intn(8), 1+r.Intn(top))
		with := clock.With(v, d)
		if with != clock.Join(v, but(full(math.MinInt), d.Node, d.N)) {
			t.Errorf("With(%v, %v) = %v", v, d, with)
		}
		if !clock.Has(with, d) || !clock.Below(v, with) || clock.With(with, d) != with {
			t.Errorf("With(%v, %v) = %v, which is not above it", v, d, with)
		}
		if (with == v) != clock.Has(v, d) {
			t.Errorf("With(%v, %v) = %v, and Has is %v", v, d, with, clock.Has(v, d))
		}
	}
}

// P13.1, R6: nothing is kept from call to call, in whatever order the calls come.
func TestNothingIsKept(t *testing.T) {
	l, dots := everyVector(), everyDot()
	r := rand.New(rand.NewSource(7))
	var all sync.WaitGroup
	for worker := range 4 {
		order, other := r.Perm(len(l)), r.Perm(len(l))
		all.Go(func() {
			for n, i := range order {
				a, b, d := l[i], l[other[n]], dots[n%len(dots)]
				if got := clock.Below(a, b); got != isBelow(a, b) {
					t.Errorf("worker %d: Below(%v, %v) = %v", worker, a, b, got)
				}
				if sum := clock.Join(a, b); !isBelow(a, sum) || !isBelow(b, sum) {
					t.Errorf("worker %d: Join(%v, %v) = %v", worker, a, b, sum)
				}
				if with := clock.With(a, d); !isBelow(a, with) || clock.Has(a, d) && with != a {
					t.Errorf("worker %d: With(%v, %v) = %v", worker, a, d, with)
				}
				if want := slices.Min(a[:]) >= 0 && slices.Max(a[:]) <= top; clock.May(a) != want {
					t.Errorf("worker %d: May(%v) = %v", worker, a, !want)
				}
			}
		})
	}
	all.Wait()
}
