package plan_test

import (
	"math"
	"math/rand"
	"slices"
	"sync"
	"testing"

	"starling/api"
	"starling/plan"
)

const top = 1000000 // the last version

func at(version, by int, targets ...int) api.Plan {
	return api.Plan{Version: version, By: by, Targets: targets}
}

// all is the targets of a plan by which each part is to belong to node.
func all(node int) []int {
	return slices.Repeat([]int{node}, 16)
}

// but is targets with another node for one part.
func but(targets []int, part, node int) []int {
	l := slices.Clone(targets)
	l[part] = node
	return l
}

// mixed is targets in which every node stands twice.
func mixed() []int {
	return []int{0, 1, 2, 3, 4, 5, 6, 7, 7, 6, 5, 4, 3, 2, 1, 0}
}

// numbers are those at which a call may answer otherwise, and their neighbours,
// and numbers that are one of them in fewer bits.
func numbers() []int {
	return []int{
		math.MinInt, math.MinInt + 1, -1 << 32, -top, -2, -1, 0, 1, 2, 3, 6, 7, 8, 9,
		255, 256, top - 1, top, top + 1, 1 << 32, 1<<32 + 1, math.MaxInt - 1, math.MaxInt,
	}
}

// everyTargets is lists in the order of plans: the shorter first.
func everyTargets() [][]int {
	l := [][]int{
		nil,
		{math.MinInt}, {-1}, {0}, {7}, {8}, {math.MaxInt},
		{0, 9}, {1, -9},
		slices.Repeat([]int{7}, 15),
		but(all(0), 0, -1), but(all(0), 15, -1), all(0), but(all(0), 15, 1),
		but(all(0), 15, 7), but(all(0), 15, 8), but(all(0), 14, 1),
		mixed(), but(mixed(), 15, 1), but(mixed(), 8, 8),
		all(7), but(all(7), 15, 8), but(all(7), 0, 8), but(all(7), 0, math.MaxInt),
		slices.Repeat([]int{0}, 17), slices.Repeat([]int{0}, 32),
	}
	return l
}

// everyPlan is every plan made of numbers and everyTargets, valid or not, in
// their order.
func everyPlan() []api.Plan {
	var l []api.Plan
	for _, version := range numbers() {
		for _, by := range numbers() {
			for _, targets := range everyTargets() {
				l = append(l, at(version, by, targets...))
			}
		}
	}
	return l
}

// somePlans is fewer of them, so that each can be held against each.
func somePlans() []api.Plan {
	var l []api.Plan
	for _, version := range []int{math.MinInt, -1, 0, 1, 2, top, top + 1, math.MaxInt} {
		for _, by := range []int{math.MinInt, -1, 0, 1, 7, 8, math.MaxInt} {
			for _, targets := range everyTargets() {
				l = append(l, at(version, by, targets...))
			}
		}
	}
	return l
}

// areNodes reports what the chapter says of targets, with the limits as DOC.md
// tells them.
func areNodes(l []int) bool {
	nodes := 0
	for _, n := range l {
		if n >= 0 && n <= 7 {
			nodes++
		}
	}
	return nodes == 16 && len(l) == 16
}

// isValid is what the chapter says of a plan.
func isValid(p api.Plan) bool {
	made := p.Version >= 1 && p.Version <= top && p.By >= 0 && p.By <= 7 && areNodes(p.Targets)
	none := p.Version == 0 && p.By == 0 && len(p.Targets) == 0
	return made || none
}

// isEqual holds two plans against each other, field by field.
func isEqual(a, b api.Plan) bool {
	return a.Version == b.Version && a.By == b.By && slices.Equal(a.Targets, b.Targets)
}

// P10.1
func TestMay(t *testing.T) {
	for _, x := range []struct {
		name string
		p    api.Plan
		want bool
	}{
		{"there is no plan", at(0, 0), true},
		{"there is no plan, and an empty list", at(0, 0, []int{}...), true},
		{"no plan, and memory beyond the list", at(0, 0, all(9)[:0]...), true},
		{"the first version, the first node", at(1, 0, all(0)...), true},
		{"the first version, the last node", at(1, 7, all(7)...), true},
		{"some version", at(41, 3, mixed()...), true},
		{"the last version", at(top, 7, mixed()...), true},
		{"a plan by a node that gets nothing", at(5, 2, all(3)...), true},
		{"what is beyond the list is no node", at(5, 2, append(all(3), 8)[:16]...), true},
		{"targets without a version", at(0, 0, all(0)...), false},
		{"targets and a node without a version", at(0, 2, mixed()...), false},
		{"a node without a version", at(0, 1), false},
		{"what is no node without a version", at(0, -1), false},
		{"a version without targets", at(1, 0), false},
		{"a version and a node without targets", at(1, 2), false},
		{"a negative version", at(-1, 0, mixed()...), false},
		{"a negative version without targets", at(-1, 0), false},
		{"a version after the last", at(top+1, 0, mixed()...), false},
		{"a version that is 1 in fewer bits", at(1<<32+1, 0, mixed()...), false},
		{"by a node after the last", at(1, 8, mixed()...), false},
		{"by a negative node", at(1, -1, mixed()...), false},
		{"by what is 1 in fewer bits", at(1, 1<<32+1, mixed()...), false},
		{"one target too few", at(1, 0, mixed()[:15]...), false},
		{"one target too many", at(1, 0, append(mixed(), 0)...), false},
		{"twice the targets", at(1, 0, append(mixed(), mixed()...)...), false},
		{"one target", at(1, 0, 0), false},
		{"the first target is no node", at(1, 0, but(mixed(), 0, 8)...), false},
		{"the last target is no node", at(1, 0, but(mixed(), 15, 8)...), false},
		{"the first target is negative", at(1, 0, but(mixed(), 0, -1)...), false},
		{"the last target is negative", at(1, 0, but(mixed(), 15, -1)...), false},
		{"a target that is 0 in fewer bits", at(1, 0, but(mixed(), 5, 1<<32)...), false},
		{"everything is too great", at(math.MaxInt, math.MaxInt, all(math.MaxInt)...), false},
		{"everything is too small", at(math.MinInt, math.MinInt, all(math.MinInt)...), false},
	} {
		if got := plan.May(x.p); got != x.want {
			t.Errorf("%s: May(%v) = %v", x.name, x.p, got)
		}
	}
}

// P10.1
func TestMayOfEveryEdge(t *testing.T) {
	for _, p := range everyPlan() {
		if got := plan.May(p); got != isValid(p) {
			t.Errorf("May(%v) = %v", p, got)
		}
	}
}

// P10.1: each target may be each node, and nothing else.
func TestMayOfEveryTarget(t *testing.T) {
	for part := range 16 {
		for _, n := range numbers() {
			want := n >= 0 && n <= 7
			if got := plan.May(at(1, 2, but(mixed(), part, n)...)); got != want {
				t.Errorf("May of a plan with %d for part %d = %v", n, part, got)
			}
		}
	}
}

// P10.1
func TestCompare(t *testing.T) {
	for _, x := range []struct {
		name string
		a, b api.Plan
		want int
	}{
		{"no plan and the first one", at(0, 0), at(1, 0, all(0)...), -1},
		{"the version rises", at(4, 2, mixed()...), at(5, 2, mixed()...), -1},
		{"the node is greater", at(4, 2, mixed()...), at(4, 3, mixed()...), -1},
		{"more targets", at(4, 2, 1, 1), at(4, 2, 1, 1, 1), -1},
		{"no targets and one", at(4, 2), at(4, 2, -1), -1},
		{"the first target is greater", at(4, 2, all(3)...), at(4, 2, but(all(3), 0, 4)...), -1},
		{"the last target is greater", at(4, 2, all(3)...), at(4, 2, but(all(3), 15, 4)...), -1},
		{"the version outweighs the node", at(4, 7, all(0)...), at(5, 0, all(0)...), -1},
		{"the version outweighs the targets", at(4, 0, all(7)...), at(5, 0, all(0)...), -1},
		{"the version outweighs their number", at(4, 0, all(7)...), at(5, 0), -1},
		{"the node outweighs the targets", at(4, 0, all(7)...), at(4, 1, all(0)...), -1},
		{"the node outweighs their number", at(4, 0, all(7)...), at(4, 1), -1},
		{"the number of targets outweighs what they are", at(4, 2, 7, 7), at(4, 2, 0, 0, 0), -1},
		{"no number outweighs a longer list", at(4, 2, math.MaxInt), at(4, 2, math.MinInt, math.MinInt), -1},
		{"an earlier target outweighs a later one", at(4, 2, but(all(3), 15, 7)...), at(4, 2, but(all(3), 14, 4)...), -1},
		{"the first target outweighs the second", at(4, 2, 0, 7), at(4, 2, 1, 0), -1},
		{"the same", at(4, 2, mixed()...), at(4, 2, mixed()...), 0},
		{"no plan twice", at(0, 0), at(0, 0), 0},
		{"no list and an empty one", at(0, 0), at(0, 0, []int{}...), 0},
		{"other memory beyond the lists", at(4, 2, all(3)[:5]...), at(4, 2, but(all(3), 5, 4)[:5]...), 0},
		{"the same, not valid", at(-4, 99, -1, 8), at(-4, 99, -1, 8), 0},
		{"a node after the last and the last", at(4, 7), at(4, 8), -1},
		{"a negative version and none", at(-1, 7, all(7)...), at(0, 0), -1},
		{"versions after the last", at(top+1, 7), at(top+2, 0), -1},
		{"versions as far apart as can be", at(math.MinInt, 0), at(math.MaxInt, 0), -1},
		{"nodes as far apart as can be", at(4, math.MinInt), at(4, math.MaxInt), -1},
		{"targets as far apart as can be", at(4, 2, math.MinInt), at(4, 2, math.MaxInt), -1},
	} {
		if got := plan.Compare(x.a, x.b); got != x.want {
			t.Errorf("%s: Compare(%v, %v) = %d", x.name, x.a, x.b, got)
		}
		if got := plan.Compare(x.b, x.a); got != -x.want {
			t.Errorf("%s: Compare(%v, %v) = %d", x.name, x.b, x.a, got)
		}
		if got := plan.Same(x.a, x.b); got != (x.want == 0) {
			t.Errorf("%s: Same(%v, %v) = %v", x.name, x.a, x.b, got)
		}
		if got := plan.Same(x.b, x.a); got != (x.want == 0) {
			t.Errorf("%s: Same(%v, %v) = %v", x.name, x.b, x.a, got)
		}
	}
}

// P10.1
func TestJoin(t *testing.T) {
	for _, x := range []struct {
		name       string
		a, b, want api.Plan
	}{
		{"b has the greater version", at(4, 7, all(7)...), at(5, 0, all(0)...), at(5, 0, all(0)...)},
		{"a has the greater version", at(5, 0, all(0)...), at(4, 7, all(7)...), at(5, 0, all(0)...)},
		{"b is by the greater node", at(4, 2, all(7)...), at(4, 3, mixed()...), at(4, 3, mixed()...)},
		{"a is by the greater node", at(4, 3, mixed()...), at(4, 2, all(7)...), at(4, 3, mixed()...)},
		{"b has the greater targets", at(4, 2, mixed()...), at(4, 2, all(7)...), at(4, 2, all(7)...)},
		{"a has the greater targets", at(4, 2, all(7)...), at(4, 2, mixed()...), at(4, 2, all(7)...)},
		{"b has more targets", at(4, 2, 7), at(4, 2, 0, 1), at(4, 2, 0, 1)},
		{"a has more targets", at(4, 2, 0, 1), at(4, 2, 7), at(4, 2, 0, 1)},
		{"they are equal", at(4, 2, mixed()...), at(4, 2, mixed()...), at(4, 2, mixed()...)},
		{"a is no plan", at(0, 0), at(1, 0, all(0)...), at(1, 0, all(0)...)},
		{"b is no plan", at(1, 0, all(0)...), at(0, 0), at(1, 0, all(0)...)},
		{"neither is a plan", at(0, 0), at(0, 0), at(0, 0)},
		{"what is not valid is less", at(0, 0), at(-1, 9, 8), at(0, 0)},
		{"what is not valid is greater", at(1, 7, all(7)...), at(1, 8), at(1, 8)},
		{"a version after the last is greater", at(top+1, 0), at(top, 7, all(7)...), at(top+1, 0)},
		{"neither is valid", at(-2, 9), at(-1, -9, 8), at(-1, -9, 8)},
	} {
		if got := plan.Join(x.a, x.b); !isEqual(got, x.want) {
			t.Errorf("%s: Join(%v, %v) = %v", x.name, x.a, x.b, got)
		}
	}
}

// P10.2: the example, and the rows beside it.
func TestNext(t *testing.T) {
	none := at(0, 0)
	for _, x := range []struct {
		name    string
		p       api.Plan
		by      int
		targets []int
		want    api.Plan
		errno   api.Errno
	}{
		{"the example", none, 2, all(2), at(1, 2, all(2)...), api.OK},
		{"after an empty list", at(0, 0, []int{}...), 2, all(2), at(1, 2, all(2)...), api.OK},
		{"by the first node", at(41, 3, all(3)...), 0, mixed(), at(42, 0, mixed()...), api.OK},
		{"by the last node", at(41, 3, all(3)...), 7, mixed(), at(42, 7, mixed()...), api.OK},
		{"by the same node, the same targets", at(41, 3, mixed()...), 3, mixed(), at(42, 3, mixed()...), api.OK},
		{"smaller targets", at(41, 3, all(7)...), 3, all(0), at(42, 3, all(0)...), api.OK},
		{"up to the last version", at(top-1, 3, mixed()...), 4, all(7), at(top, 4, all(7)...), api.OK},
		{"over", at(top, 3, mixed()...), 4, all(7), none, api.ErrOver},
		{"over, by the same node", at(top, 0, all(0)...), 0, all(0), none, api.ErrOver},
		{"by a node after the last", none, 8, all(2), none, api.ErrArg},
		{"by a negative node", none, -1, all(2), none, api.ErrArg},
		{"by what is 2 in fewer bits", none, 1<<32 + 2, all(2), none, api.ErrArg},
		{"no targets", none, 2, nil, none, api.ErrArg},
		{"an empty list", none, 2, []int{}, none, api.ErrArg},
		{"one target too few", none, 2, mixed()[:15], none, api.ErrArg},
		{"one target too many", none, 2, append(mixed(), 0), none, api.ErrArg},
		{"the first target is no node", none, 2, but(mixed(), 0, 8), none, api.ErrArg},
		{"the last target is no node", none, 2, but(mixed(), 15, 8), none, api.ErrArg},
		{"a negative target", none, 2, but(mixed(), 7, -1), none, api.ErrArg},
		{"what is beyond the list is no node", none, 2, append(mixed(), 8)[:16], at(1, 2, mixed()...), api.OK},
		{"after a node without a version", at(0, 1), 2, all(2), none, api.ErrArg},
		{"after targets without a version", at(0, 0, all(0)...), 2, all(2), none, api.ErrArg},
		{"after a version without targets", at(1, 0), 2, all(2), none, api.ErrArg},
		{"after a negative version", at(-1, 0, all(0)...), 2, all(2), none, api.ErrArg},
		{"after a version after the last", at(top+1, 0, all(0)...), 2, all(2), none, api.ErrArg},
		{"after the greatest version of all", at(math.MaxInt, 0, all(0)...), 2, all(2), none, api.ErrArg},
		{"after a plan by no node", at(1, 8, all(0)...), 2, all(2), none, api.ErrArg},
		{"after a plan to no node", at(1, 0, all(8)...), 2, all(2), none, api.ErrArg},
		{"ErrArg comes before ErrOver: p is not valid", at(top, 8, all(0)...), 2, all(2), none, api.ErrArg},
		{"ErrArg comes before ErrOver: by is no node", at(top, 3, all(0)...), 8, all(2), none, api.ErrArg},
		{"ErrArg comes before ErrOver: the targets are not Parts", at(top, 3, all(0)...), 2, all(2)[1:], none, api.ErrArg},
		{"ErrArg comes before ErrOver: a target is no node", at(top, 3, all(0)...), 2, all(8), none, api.ErrArg},
		{"nothing is valid", at(-1, -1, -1), -1, []int{-1}, none, api.ErrArg},
	} {
		got, errno := plan.Next(x.p, x.by, x.targets)
		if !isEqual(got, x.want) || errno != x.errno {
			t.Errorf("%s: Next(%v, %d, %v) = %v, %d", x.name, x.p, x.by, x.targets, got, errno)
		}
		if errno != api.OK && got.Targets != nil {
			t.Errorf("%s: beside the error stands %v", x.name, got)
		}
	}
}

// P10.2
func TestNextOfEveryEdge(t *testing.T) {
	for _, p := range somePlans() {
		for _, by := range numbers() {
			for _, targets := range everyTargets() {
				want, wantErrno := at(p.Version+1, by, targets...), api.OK
				if !isValid(p) || by < 0 || by > 7 || !areNodes(targets) {
					want, wantErrno = at(0, 0), api.ErrArg
				} else if p.Version == top {
					want, wantErrno = at(0, 0), api.ErrOver
				}
				if got, errno := plan.Next(p, by, targets); !isEqual(got, want) || errno != wantErrno {
					t.Fatalf("Next(%v, %d, %v) = %v, %d", p, by, targets, got, errno)
				}
			}
		}
	}
}

// P10.2: every version up to the last, and no further.
func TestNextOneByOne(t *testing.T) {
	p, targets := at(0, 0), mixed()
	for n := 1; n <= top; n++ {
		next, errno := plan.Next(p, n%8, targets)
		if next.Version != n || next.By != n%8 || errno != api.OK {
			t.Fatalf("Next(%v, %d, ..) = %v, %d", p, n%8, next, errno)
		}
		p = next
	}
	if next, errno := plan.Next(p, 1, targets); !isEqual(next, at(0, 0)) || errno != api.ErrOver {
		t.Errorf("Next(%v, 1, ..) = %v, %d", p, next, errno)
	}
}

// P10.3: somePlans stand in order, by what they are made of.
func TestCompareIsAnOrder(t *testing.T) {
	l := somePlans()
	for i, a := range l {
		for k, b := range l {
			want := 0
			if i < k {
				want = -1
			} else if i > k {
				want = 1
			}
			if got := plan.Compare(a, b); got != want {
				t.Fatalf("Compare(%v, %v) = %d", a, b, got)
			}
			if plan.Same(a, b) != (i == k) {
				t.Fatalf("Same(%v, %v) is wrong", a, b)
			}
		}
	}
}

// P10.3: neighbours among everyPlan stand in order, too.
func TestCompareOfEveryEdge(t *testing.T) {
	l := everyPlan()
	for i, b := range l[1:] {
		if plan.Compare(l[i], b) != -1 || plan.Compare(b, l[i]) != 1 || plan.Compare(b, b) != 0 {
			t.Errorf("%v and %v stand in another order", l[i], b)
		}
	}
}

// P10.3: Join is the least plan that is below neither.
func TestJoinIsTheGreater(t *testing.T) {
	l := somePlans()
	for i, a := range l {
		for k, b := range l {
			if got := plan.Join(a, b); !isEqual(got, l[max(i, k)]) {
				t.Fatalf("Join(%v, %v) = %v", a, b, got)
			}
		}
	}
}

// P10.3: it does not matter in which order plans are joined, or how often.
func TestJoinInAnyOrder(t *testing.T) {
	r := rand.New(rand.NewSource(1))
	every := everyPlan()
	for range 2000 {
		var l []api.Plan
		for range 1 + r.Intn(9) {
			l = append(l, every[r.Intn(len(every))])
		}
		want := slices.MaxFunc(l, plan.Compare)
		twice := append(slices.Clone(l), l...)
		r.Shuffle(len(twice), func(i, k int) { twice[i], twice[k] = twice[k], twice[i] })
		half := r.Intn(len(twice))
		left, right := joined(twice[:half+1]), joined(twice[half:])
		if !isEqual(joined(l), want) || !isEqual(joined(twice), want) || !isEqual(plan.Join(left, right), want) {
			t.Errorf("%v joined are %v, and not always", l, want)
		}
	}
}

// joined is the plans of l, of which there is one at least, joined one by one.
func joined(l []api.Plan) api.Plan {
	sum := l[0]
	for _, p := range l[1:] {
		sum = plan.Join(sum, p)
	}
	return sum
}

// P10.3: who hears of the next plan, and of the one before, follows the next.
func TestNextIsGreater(t *testing.T) {
	made := 0
	for _, p := range everyPlan() {
		for by := range 8 {
			for _, targets := range [][]int{all(0), mixed(), all(7)} {
				next, errno := plan.Next(p, by, targets)
				if errno != api.OK {
					continue
				}
				made++
				if !plan.May(next) || plan.Compare(next, p) != 1 || plan.Compare(p, next) != -1 || plan.Same(p, next) {
					t.Errorf("Next(%v, %d, %v) = %v", p, by, targets, next)
				}
				if !isEqual(plan.Join(p, next), next) || !isEqual(plan.Join(next, p), next) {
					t.Errorf("%v is not followed rather than %v", next, p)
				}
			}
		}
	}
	if made == 0 {
		t.Error("nothing was made")
	}
}

// P10.3, T1: plans that only Next and Join make are valid, and rise.
func TestWhatIsMadeRises(t *testing.T) {
	r := rand.New(rand.NewSource(2))
	for range 200 {
		known := [3]api.Plan{}
		for range 50 {
			i, k := r.Intn(3), r.Intn(3)
			before := known[i]
			targets := mixed()
			r.Shuffle(16, func(a, b int) { targets[a], targets[b] = targets[b], targets[a] })
			if next, errno := plan.Next(known[k], r.Intn(8), targets); errno == api.OK && r.Intn(2) == 0 {
				known[k] = next
			}
			known[i] = plan.Join(known[i], known[k])
			if !plan.May(known[i]) || plan.Compare(known[i], before) < 0 {
				t.Fatalf("%v became %v", before, known[i])
			}
		}
	}
}

// P10.1, R2: what Join returns shares no memory with a or b.
func TestJoinIsNewMemory(t *testing.T) {
	for _, x := range [][2]api.Plan{
		{at(4, 2, mixed()...), at(5, 2, all(3)...)},
		{at(5, 2, all(3)...), at(4, 2, mixed()...)},
		{at(4, 2, mixed()...), at(4, 2, mixed()...)},
		{at(-4, 9, 8, 9), at(-4, 9, 8)},
	} {
		a, b := x[0], x[1]
		wasA, wasB := slices.Clone(a.Targets), slices.Clone(b.Targets)
		got := plan.Join(a, b)
		was := slices.Clone(got.Targets)
		overwrite(got.Targets)
		if !slices.Equal(a.Targets, wasA) || !slices.Equal(b.Targets, wasB) {
			t.Errorf("Join(%v, %v) shares memory with them", x[0], x[1])
		}
		again := plan.Join(a, b)
		overwrite(a.Targets)
		overwrite(b.Targets)
		if !slices.Equal(again.Targets, was) {
			t.Errorf("what they joined to became %v", again)
		}
	}
}

// P10.2, R2: what Next returns shares no memory with p or targets.
func TestNextIsNewMemory(t *testing.T) {
	p, targets := at(4, 2, all(3)...), mixed()
	got, _ := plan.Next(p, 5, targets)
	again, _ := plan.Next(p, 5, p.Targets)
	overwrite(got.Targets)
	if !slices.Equal(targets, mixed()) || !slices.Equal(p.Targets, all(3)) {
		t.Errorf("Next shares memory: %v, %v", p, targets)
	}
	overwrite(p.Targets)
	if !isEqual(again, at(5, 5, all(3)...)) {
		t.Errorf("the next plan became %v", again)
	}
}

// overwrite changes l, and the memory behind it.
func overwrite(l []int) {
	l = l[:cap(l)]
	for i := range l {
		l[i] = -77
	}
}

// P10.1, P10.2, R2: memory beyond a list stays as it is, as does the list.
func TestArgumentsStay(t *testing.T) {
	room := append(mixed(), 8, 9, 10)
	more := append(mixed(), 8, 9, 10)
	p, other := at(4, 2, room[:16]...), at(4, 2, room[1:17]...)
	plan.May(p)
	plan.Compare(p, other)
	plan.Same(other, p)
	plan.Join(p, other)
	plan.Join(other, p)
	plan.Next(p, 3, room[:16])
	plan.Next(p, 3, room[:15])
	plan.Next(other, 3, room[1:17])
	if !slices.Equal(room, more) || !isEqual(p, at(4, 2, more[:16]...)) {
		t.Errorf("the arguments became %v and %v", p, room)
	}
}

// P10.1: a list that is far too long is no plan's, but has its place in the order.
func TestManyTargets(t *testing.T) {
	many := slices.Repeat([]int{3}, 1<<16)
	p := at(1, 2, many...)
	if plan.May(p) || plan.Compare(p, at(1, 2, all(7)...)) != 1 || !isEqual(plan.Join(at(1, 2, all(7)...), p), p) {
		t.Error("many targets have another place")
	}
	if got, errno := plan.Next(at(0, 0), 2, many); errno != api.ErrArg || !isEqual(got, at(0, 0)) {
		t.Errorf("Next = %v, %d", got, errno)
	}
}

// P10.3, R6: nothing is kept from call to call, in whatever order the calls come.
func TestNothingIsKept(t *testing.T) {
	r := rand.New(rand.NewSource(3))
	l := everyPlan()
	var workers sync.WaitGroup
	for worker := range 4 {
		order, other := r.Perm(len(l)), r.Perm(len(l))
		workers.Go(func() {
			for n, i := range order {
				k := other[n]
				if got := plan.Join(l[i], l[k]); !isEqual(got, l[max(i, k)]) {
					t.Errorf("worker %d: Join(%v, %v) = %v", worker, l[i], l[k], got)
				}
				if plan.May(l[i]) != isValid(l[i]) {
					t.Errorf("worker %d: May(%v) is wrong", worker, l[i])
				}
				plan.Next(l[i], k%8, l[k].Targets)
			}
		})
	}
	workers.Wait()
}
