package ring_test

import (
	"cmp"
	"math"
	"math/rand"
	"slices"
	"sync"
	"testing"

	"starling/api"
	"starling/ring"
)

const top = 1000000 // the last version, and the last epoch

func at(epoch, owner int) api.Entry {
	return api.Entry{Epoch: epoch, Owner: owner}
}

func planned(version, by int, targets ...int) api.Plan {
	return api.Plan{Version: version, By: by, Targets: targets}
}

// all is the targets of a plan by which each part is to belong to node.
func all(node int) []int {
	return slices.Repeat([]int{node}, 16)
}

// mixed is targets in which every node stands twice.
func mixed() []int {
	return []int{0, 1, 2, 3, 4, 5, 6, 7, 7, 6, 5, 4, 3, 2, 1, 0}
}

// but is l with another number at one place.
func but(l []int, i, n int) []int {
	l = slices.Clone(l)
	l[i] = n
	return l
}

// some is a valid ring: 1, 3 and 4 are members, 2 is joining, 5 is leaving and
// 6 is gone; the parts from 0 on belong to 1, 3, 4 and 5 by turns, but 11 and 12
// belong to nobody.
func some() api.Ring {
	r := api.Ring{Status: [8]int{0, 2, 1, 2, 2, 3, 4, 0}, Plan: planned(7, 3, mixed()...)}
	for part := range 16 {
		r.Parts[part] = at(part+1, []int{1, 3, 4, 5}[part%4])
	}
	r.Parts[11], r.Parts[12] = at(0, 0), at(0, 0)
	return r
}

// with is r, with something changed.
func with(r api.Ring, change func(r *api.Ring)) api.Ring {
	r.Plan.Targets = slices.Clone(r.Plan.Targets)
	change(&r)
	return r
}

// numbers are those at which a call may answer otherwise, and their neighbours,
// and numbers that are one of them in fewer bits.
func numbers() []int {
	return []int{
		math.MinInt, math.MinInt + 1, -1 << 32, -top, -2, -1, 0, 1, 2, 3, 4, 5, 6, 7, 8, 9,
		14, 15, 16, 17, 255, 256, 259, top - 1, top, top + 1, 1 << 32, 1<<32 + 1, math.MaxInt - 1, math.MaxInt,
	}
}

// isEntry, isPlan and isRing are what the chapters say is valid, with the
// limits as DOC.md tells them.
func isEntry(e api.Entry) bool {
	owned := e.Epoch >= 1 && e.Epoch <= top && e.Owner >= 0 && e.Owner <= 7
	return owned || e == at(0, 0)
}

func isPlan(p api.Plan) bool {
	nodes := 0
	for _, n := range p.Targets {
		if n >= 0 && n <= 7 {
			nodes++
		}
	}
	made := p.Version >= 1 && p.Version <= top && p.By >= 0 && p.By <= 7 && nodes == 16 && len(p.Targets) == 16
	return made || p.Version == 0 && p.By == 0 && len(p.Targets) == 0
}

func isRing(r api.Ring) bool {
	wrong := 0
	for _, s := range r.Status {
		if s < 0 || s > 4 {
			wrong++
		}
	}
	for _, e := range r.Parts {
		if !isEntry(e) {
			wrong++
		}
	}
	return wrong == 0 && isPlan(r.Plan)
}

// isEqual holds two rings against each other, field by field.
func isEqual(a, b api.Ring) bool {
	return a.Status == b.Status && a.Parts == b.Parts && comparePlans(a.Plan, b.Plan) == 0
}

func compareEntries(a, b api.Entry) int {
	return slices.Compare([]int{a.Epoch, a.Owner}, []int{b.Epoch, b.Owner})
}

func comparePlans(a, b api.Plan) int {
	head := func(p api.Plan) []int { return []int{p.Version, p.By, len(p.Targets)} }
	return cmp.Or(slices.Compare(head(a), head(b)), slices.Compare(a.Targets, b.Targets))
}

// isBelow reports whether nothing in a is greater than in b.
func isBelow(a, b api.Ring) bool {
	for n := range 8 {
		if a.Status[n] > b.Status[n] {
			return false
		}
	}
	for i := range 16 {
		if compareEntries(a.Parts[i], b.Parts[i]) > 0 {
			return false
		}
	}
	return comparePlans(a.Plan, b.Plan) <= 0
}

// everyOdd is rings that differ from some in one number each, valid or not.
func everyOdd() []api.Ring {
	var l []api.Ring
	odd := func(change func(r *api.Ring)) { l = append(l, with(some(), change)) }
	for _, x := range numbers() {
		for n := range 8 {
			odd(func(r *api.Ring) { r.Status[n] = x })
		}
		for i := range 16 {
			odd(func(r *api.Ring) { r.Parts[i].Epoch = x })
			odd(func(r *api.Ring) { r.Parts[i].Owner = x })
			odd(func(r *api.Ring) { r.Plan.Targets[i] = x })
		}
		odd(func(r *api.Ring) { r.Plan.Version = x })
		odd(func(r *api.Ring) { r.Plan.By = x })
		odd(func(r *api.Ring) { r.Plan = planned(x, 0) })
		odd(func(r *api.Ring) { r.Plan = planned(0, x) })
	}
	for n := range 18 {
		odd(func(r *api.Ring) { r.Plan.Targets = append(all(1), 2, 3)[:n] })
	}
	return l
}

// drawn is a ring of numbers that r draws: few, so that rings meet in many of
// them, and valid ones only where it is asked for.
func drawn(r *rand.Rand, valid bool) api.Ring {
	var x api.Ring
	draw := func(from, to int) int { return from + r.Intn(to-from+1) }
	for n := range 8 {
		x.Status[n] = draw(0, 4)
	}
	for i := range 16 {
		if r.Intn(4) > 0 {
			x.Parts[i] = at(draw(1, 3), draw(0, 7))
		}
	}
	if r.Intn(4) > 0 {
		x.Plan = planned(draw(1, 2), draw(0, 1), but(all(draw(0, 1)), draw(0, 15), draw(0, 7))...)
	}
	if valid {
		return x
	}
	every := numbers()
	for range r.Intn(4) {
		n := every[r.Intn(len(every))]
		switch r.Intn(5) {
		case 0:
			x.Status[r.Intn(8)] = n
		case 1:
			x.Parts[r.Intn(16)].Epoch = n
		case 2:
			x.Parts[r.Intn(16)].Owner = n
		case 3:
			x.Plan.Version = n
		case 4:
			x.Plan.Targets = append(x.Plan.Targets[:len(x.Plan.Targets)/2], n)
		}
	}
	return x
}

// P11.1
func TestFirst(t *testing.T) {
	for node := range 8 {
		want := api.Ring{}
		want.Status[node] = 2
		for i := range 16 {
			want.Parts[i] = at(1, node)
		}
		got, ok := ring.First(node)
		if !ok || !isEqual(got, want) || !ring.May(got) {
			t.Errorf("First(%d) = %v, %v", node, got, ok)
		}
	}
	for _, node := range numbers() {
		got, ok := ring.First(node)
		if ok != (node >= 0 && node <= 7) || !ok && !isEqual(got, api.Ring{}) {
			t.Errorf("First(%d) = %v, %v", node, got, ok)
		}
	}
}

// P11.1
func TestMay(t *testing.T) {
	for _, x := range []struct {
		name   string
		change func(r *api.Ring)
		want   bool
	}{
		{"some ring", func(r *api.Ring) {}, true},
		{"no status, no plan, no owner", func(r *api.Ring) { *r = api.Ring{} }, true},
		{"no status", func(r *api.Ring) { r.Status = [8]int{} }, true},
		{"everybody is gone", func(r *api.Ring) { r.Status = [8]int{4, 4, 4, 4, 4, 4, 4, 4} }, true},
		{"no plan", func(r *api.Ring) { r.Plan = api.Plan{} }, true},
		{"no plan, and an empty list", func(r *api.Ring) { r.Plan = planned(0, 0, []int{}...) }, true},
		{"no owners", func(r *api.Ring) { r.Parts = [16]api.Entry{} }, true},
		{"an owner that is gone", func(r *api.Ring) { r.Parts[2].Owner = 6 }, true},
		{"a target that never came", func(r *api.Ring) { r.Plan.Targets[2] = 7 }, true},
		{"a status beyond the last, of the first node", func(r *api.Ring) { r.Status[0] = 5 }, false},
		{"a status beyond the last, of the last node", func(r *api.Ring) { r.Status[7] = 5 }, false},
		{"a negative status of the first node", func(r *api.Ring) { r.Status[0] = -1 }, false},
		{"a negative status of the last node", func(r *api.Ring) { r.Status[7] = -1 }, false},
		{"a status that is 1 in fewer bits", func(r *api.Ring) { r.Status[3] = 257 }, false},
		{"a plan without targets", func(r *api.Ring) { r.Plan.Targets = nil }, false},
		{"a plan without a version", func(r *api.Ring) { r.Plan.Version = 0 }, false},
		{"a plan by no node", func(r *api.Ring) { r.Plan.By = 8 }, false},
		{"a target that is no node", func(r *api.Ring) { r.Plan.Targets[15] = 8 }, false},
		{"a target too few", func(r *api.Ring) { r.Plan.Targets = r.Plan.Targets[1:] }, false},
		{"the first part belongs to no node", func(r *api.Ring) { r.Parts[0].Owner = 8 }, false},
		{"the last part belongs to no node", func(r *api.Ring) { r.Parts[15].Owner = -1 }, false},
		{"an owner without an epoch", func(r *api.Ring) { r.Parts[11].Owner = 3 }, false},
		{"an epoch beyond the last", func(r *api.Ring) { r.Parts[5].Epoch = top + 1 }, false},
		{"a negative epoch", func(r *api.Ring) { r.Parts[5].Epoch = -1 }, false},
	} {
		if r := with(some(), x.change); ring.May(r) != x.want {
			t.Errorf("%s: May(%v) = %v", x.name, r, !x.want)
		}
	}
}

// P11.1
func TestMayOfEveryEdge(t *testing.T) {
	valid := 0
	for _, r := range everyOdd() {
		if isRing(r) {
			valid++
		}
		if got := ring.May(r); got != isRing(r) {
			t.Errorf("May(%v) = %v", r, got)
		}
	}
	if valid == 0 {
		t.Error("none was valid")
	}
}

// P11.2
func TestJoin(t *testing.T) {
	for _, x := range []struct {
		name         string
		a, b, expect func(r *api.Ring)
	}{
		{"nothing is new", func(r *api.Ring) {}, func(r *api.Ring) {}, func(r *api.Ring) {}},
		{
			"each knows of a greater status",
			func(r *api.Ring) { r.Status[0], r.Status[1] = 1, 3 },
			func(r *api.Ring) { r.Status[1], r.Status[7] = 4, 2 },
			func(r *api.Ring) { r.Status[0], r.Status[1], r.Status[7] = 1, 4, 2 },
		},
		{
			"one has a greater plan",
			func(r *api.Ring) { r.Plan = planned(8, 0, all(0)...) },
			func(r *api.Ring) { r.Plan = planned(7, 7, all(7)...) },
			func(r *api.Ring) { r.Plan = planned(8, 0, all(0)...) },
		},
		{
			"two plans of one version",
			func(r *api.Ring) { r.Plan = planned(8, 4, all(7)...) },
			func(r *api.Ring) { r.Plan = planned(8, 5, all(0)...) },
			func(r *api.Ring) { r.Plan = planned(8, 5, all(0)...) },
		},
		{
			"one has no plan",
			func(r *api.Ring) { r.Plan = api.Plan{} },
			func(r *api.Ring) {},
			func(r *api.Ring) {},
		},
		{
			"each knows of a later owner",
			func(r *api.Ring) { r.Parts[0], r.Parts[15] = at(2, 0), at(17, 0) },
			func(r *api.Ring) { r.Parts[0], r.Parts[15] = at(3, 7), at(16, 7) },
			func(r *api.Ring) { r.Parts[0], r.Parts[15] = at(3, 7), at(17, 0) },
		},
		{
			"two owners of one epoch",
			func(r *api.Ring) { r.Parts[4] = at(9, 1) },
			func(r *api.Ring) { r.Parts[4] = at(9, 2) },
			func(r *api.Ring) { r.Parts[4] = at(9, 2) },
		},
		{
			"one knows of no owner",
			func(r *api.Ring) { r.Parts[3] = at(0, 0) },
			func(r *api.Ring) { r.Parts[11] = at(1, 6) },
			func(r *api.Ring) { r.Parts[11] = at(1, 6) },
		},
		{
			"each knows something of everything",
			func(r *api.Ring) { r.Status[2], r.Plan.Version, r.Parts[1] = 4, 9, at(1, 7) },
			func(r *api.Ring) { r.Status[2], r.Status[4], r.Parts[2] = 3, 3, at(44, 0) },
			func(r *api.Ring) { r.Status[2], r.Status[4], r.Plan.Version, r.Parts[2] = 4, 3, 9, at(44, 0) },
		},
		{
			"what is not valid is greater, or less",
			func(r *api.Ring) { r.Status[0], r.Plan.By, r.Parts[2] = 99, 8, at(3, 9) },
			func(r *api.Ring) { r.Status[1], r.Plan.Version, r.Parts[3] = -5, -7, at(-4, 9) },
			func(r *api.Ring) { r.Status[0], r.Plan.By, r.Parts[2] = 99, 8, at(3, 9) },
		},
	} {
		a, b, want := with(some(), x.a), with(some(), x.b), with(some(), x.expect)
		if got := ring.Join(a, b); !isEqual(got, want) {
			t.Errorf("%s: Join(%v, %v) = %v", x.name, a, b, got)
		}
		if got := ring.Join(b, a); !isEqual(got, want) {
			t.Errorf("%s: Join(%v, %v) = %v", x.name, b, a, got)
		}
		if ring.Below(a, b) != isEqual(b, want) || ring.Below(b, a) != isEqual(a, want) {
			t.Errorf("%s: Below of %v and %v is wrong", x.name, a, b)
		}
	}
}

// P11.2: rings that differ in a single number are neither the same, nor both
// below the other.
func TestSameAndBelowOfEveryEdge(t *testing.T) {
	for _, odd := range everyOdd() {
		same := isEqual(odd, some())
		if ring.Same(odd, some()) != same || ring.Same(some(), odd) != same || !ring.Same(odd, odd) {
			t.Errorf("Same of %v is wrong", odd)
		}
		if got := ring.Below(odd, some()); got != isBelow(odd, some()) {
			t.Errorf("Below(%v, ..) = %v", odd, got)
		}
		if got := ring.Below(some(), odd); got != isBelow(some(), odd) {
			t.Errorf("Below(.., %v) = %v", odd, got)
		}
	}
}

// P11.2
func TestSame(t *testing.T) {
	none := with(some(), func(r *api.Ring) { r.Plan = api.Plan{} })
	empty := with(some(), func(r *api.Ring) { r.Plan = planned(0, 0, []int{}...) })
	long := with(some(), func(r *api.Ring) { r.Plan.Targets = append(r.Plan.Targets, 0) })
	room := with(long, func(r *api.Ring) { r.Plan.Targets = r.Plan.Targets[:16] })
	for _, x := range []struct {
		name string
		a, b api.Ring
		want bool
	}{
		{"the same", some(), some(), true},
		{"nothing at all", api.Ring{}, api.Ring{}, true},
		{"no list and an empty one", none, empty, true},
		{"memory beyond a list", some(), room, true},
		{"a plan and none", some(), none, false},
		{"a target more", some(), long, false},
		{"something and nothing", some(), api.Ring{}, false},
	} {
		if ring.Same(x.a, x.b) != x.want || ring.Same(x.b, x.a) != x.want {
			t.Errorf("%s: Same(%v, %v) is not %v", x.name, x.a, x.b, x.want)
		}
	}
}

// P11.2
func TestBelow(t *testing.T) {
	up := with(some(), func(r *api.Ring) { r.Status[2] = 2 })
	flipped := with(some(), func(r *api.Ring) { r.Parts[2] = at(4, 0) })
	next := with(some(), func(r *api.Ring) { r.Plan = planned(8, 0, all(0)...) })
	for _, x := range []struct {
		name string
		a, b api.Ring
		want bool
	}{
		{"the same", some(), some(), true},
		{"nothing", api.Ring{}, some(), true},
		{"something", some(), api.Ring{}, false},
		{"a greater status", some(), up, true},
		{"a less status", up, some(), false},
		{"a later owner", some(), flipped, true},
		{"an earlier owner", flipped, some(), false},
		{"a greater plan", some(), next, true},
		{"a less plan", next, some(), false},
		{"neither, by status and owner", up, flipped, false},
		{"neither, by owner and plan", flipped, next, false},
		{"neither, by plan and status", next, up, false},
	} {
		if got := ring.Below(x.a, x.b); got != x.want {
			t.Errorf("%s: Below(%v, %v) = %v", x.name, x.a, x.b, got)
		}
	}
}

// P11.2
func TestRise(t *testing.T) {
	odd := with(some(), func(r *api.Ring) { r.Parts[15].Owner = 8 })
	for _, x := range []struct {
		name         string
		r            api.Ring
		node, status int
		errno        api.Errno
	}{
		{"it joins", some(), 0, 1, api.OK},
		{"the last node joins", some(), 7, 1, api.OK},
		{"it is a member at once", some(), 0, 2, api.OK},
		{"it is gone at once", some(), 7, 4, api.OK},
		{"it becomes a member", some(), 2, 2, api.OK},
		{"it leaves", some(), 3, 3, api.OK},
		{"it has left", some(), 5, 4, api.OK},
		{"into an empty ring", api.Ring{}, 4, 2, api.OK},
		{"without a plan", with(some(), func(r *api.Ring) { r.Plan = api.Plan{} }), 0, 3, api.OK},
		{"it is joining already", some(), 2, 1, api.ErrState},
		{"it is a member already", some(), 3, 2, api.ErrState},
		{"it is leaving already", some(), 5, 3, api.ErrState},
		{"it is gone already", some(), 6, 4, api.ErrState},
		{"it is gone, and joins", some(), 6, 1, api.ErrState},
		{"it is a member, and joins", some(), 4, 1, api.ErrState},
		{"it is leaving, and a member again", some(), 5, 2, api.ErrState},
		{"no status", some(), 0, 0, api.ErrArg},
		{"no status, of one that has some", some(), 6, 0, api.ErrArg},
		{"a status beyond the last", some(), 0, 5, api.ErrArg},
		{"a negative status", some(), 0, -1, api.ErrArg},
		{"a node after the last", some(), 8, 1, api.ErrArg},
		{"a negative node", some(), -1, 1, api.ErrArg},
		{"the ring is not valid", odd, 0, 1, api.ErrArg},
		{"ErrArg comes before ErrState: the ring is not valid", odd, 6, 1, api.ErrArg},
		{"ErrArg comes before ErrState: a status of the node is not valid", with(some(), func(r *api.Ring) { r.Status[2] = 5 }), 2, 4, api.ErrArg},
		{"nothing is valid", odd, -1, -1, api.ErrArg},
	} {
		want := api.Ring{}
		if x.errno == api.OK {
			want = with(x.r, func(r *api.Ring) { r.Status[x.node] = x.status })
		}
		got, errno := ring.Rise(x.r, x.node, x.status)
		if errno != x.errno || !isEqual(got, want) {
			t.Errorf("%s: Rise(%v, %d, %d) = %v, %d", x.name, x.r, x.node, x.status, got, errno)
		}
		if errno != api.OK && got.Plan.Targets != nil {
			t.Errorf("%s: beside the error stands %v", x.name, got)
		}
	}
}

// P11.2
func TestRiseOfEveryEdge(t *testing.T) {
	for _, r := range everyOdd() {
		for _, node := range []int{-1, 0, 2, 6, 7, 8} {
			for _, status := range []int{-1, 0, 1, 2, 4, 5} {
				checkRise(t, r, node, status)
			}
		}
	}
	for _, node := range numbers() {
		for _, status := range numbers() {
			checkRise(t, some(), node, status)
		}
	}
}

func checkRise(t *testing.T, r api.Ring, node, status int) {
	t.Helper()
	want, wantErrno := api.Ring{}, api.OK
	if !isRing(r) || node < 0 || node > 7 || status < 1 || status > 4 {
		wantErrno = api.ErrArg
	} else if r.Status[node] >= status {
		wantErrno = api.ErrState
	} else {
		want = with(r, func(r *api.Ring) { r.Status[node] = status })
	}
	got, errno := ring.Rise(r, node, status)
	if !isEqual(got, want) || errno != wantErrno {
		t.Fatalf("Rise(%v, %d, %d) = %v, %d", r, node, status, got, errno)
	}
}

// P11.3: the example.
func TestExample(t *testing.T) {
	r, _ := ring.First(3)
	if got := ring.Owner(r, 7); got != 3 {
		t.Errorf("Owner(First(3), 7) = %d", got)
	}
}

// P11.3: owners and targets, whether they belong to the ring or not.
func TestOwnerAndTarget(t *testing.T) {
	for _, x := range []struct {
		name          string
		change        func(r *api.Ring)
		part          int
		owner, target int
	}{
		{"the first part", func(r *api.Ring) {}, 0, 1, 0},
		{"some part", func(r *api.Ring) {}, 6, 4, 6},
		{"the last part", func(r *api.Ring) {}, 15, 5, 0},
		{"nobody's", func(r *api.Ring) {}, 11, -1, 4},
		{"the first node's", func(r *api.Ring) { r.Parts[6] = at(1, 0) }, 6, 0, 6},
		{"of the last epoch", func(r *api.Ring) { r.Parts[6] = at(top, 7) }, 6, 7, 6},
		{"a part after the last", func(r *api.Ring) {}, 16, -1, -1},
		{"a negative part", func(r *api.Ring) {}, -1, -1, -1},
		{"an owner that is no node", func(r *api.Ring) { r.Parts[6].Owner = 8 }, 6, -1, 6},
		{"an owner that is negative", func(r *api.Ring) { r.Parts[6].Owner = -2 }, 6, -1, 6},
		{"an owner without an epoch", func(r *api.Ring) { r.Parts[6].Epoch = 0 }, 6, -1, 6},
		{"a negative epoch", func(r *api.Ring) { r.Parts[6].Epoch = -1 }, 6, -1, 6},
		{"an epoch after the last", func(r *api.Ring) { r.Parts[6].Epoch = top + 1 }, 6, -1, 6},
		{"the entry of another part is not valid", func(r *api.Ring) { r.Parts[7] = at(-1, -1) }, 6, 4, 6},
		{"a status is not valid", func(r *api.Ring) { r.Status[4] = 99 }, 6, 4, 6},
		{"there is no plan", func(r *api.Ring) { r.Plan = api.Plan{} }, 6, 4, -1},
		{"there is no plan, and an empty list", func(r *api.Ring) { r.Plan = planned(0, 0, []int{}...) }, 0, 1, -1},
		{"there is no plan, and memory beyond its list", func(r *api.Ring) { r.Plan = planned(0, 0, all(3)[:0]...) }, 0, 1, -1},
		{"a plan without targets", func(r *api.Ring) { r.Plan.Targets = nil }, 0, 1, -1},
		{"targets without a version", func(r *api.Ring) { r.Plan.Version, r.Plan.By = 0, 0 }, 6, 4, -1},
		{"a version after the last", func(r *api.Ring) { r.Plan.Version = top + 1 }, 6, 4, -1},
		{"a plan by no node", func(r *api.Ring) { r.Plan.By = 8 }, 6, 4, -1},
		{"a target too few", func(r *api.Ring) { r.Plan.Targets = r.Plan.Targets[:15] }, 6, 4, -1},
		{"a target too few, of the last part", func(r *api.Ring) { r.Plan.Targets = r.Plan.Targets[:15] }, 15, 5, -1},
		{"a target too many", func(r *api.Ring) { r.Plan.Targets = append(r.Plan.Targets, 1) }, 6, 4, -1},
		{"a target too many, beyond the last part", func(r *api.Ring) { r.Plan.Targets = append(r.Plan.Targets, 1) }, 16, -1, -1},
		{"a target that is no node", func(r *api.Ring) { r.Plan.Targets[6] = 8 }, 6, 4, -1},
		{"the target of another part is no node", func(r *api.Ring) { r.Plan.Targets[7] = 8 }, 6, 4, -1},
	} {
		r := with(some(), x.change)
		if got := ring.Owner(r, x.part); got != x.owner {
			t.Errorf("%s: Owner(%v, %d) = %d", x.name, r, x.part, got)
		}
		if got := ring.Target(r, x.part); got != x.target {
			t.Errorf("%s: Target(%v, %d) = %d", x.name, r, x.part, got)
		}
	}
}

// ownerOf and targetOf are what the chapter says.
func ownerOf(r api.Ring, part int) int {
	if part >= 0 && part < 16 && isEntry(r.Parts[part]) && r.Parts[part] != at(0, 0) {
		return r.Parts[part].Owner
	}
	return -1
}

func targetOf(r api.Ring, part int) int {
	if part >= 0 && part < 16 && isPlan(r.Plan) && r.Plan.Version > 0 {
		return r.Plan.Targets[part]
	}
	return -1
}

func movingOf(r api.Ring, node int) []int {
	var l []int
	for part := range 16 {
		target := targetOf(r, part)
		if node >= 0 && ownerOf(r, part) == node && target >= 0 && target != node {
			l = append(l, part)
		}
	}
	return l
}

func nodesOf(r api.Ring, from, to int) []int {
	var l []int
	for n, s := range r.Status {
		if s >= from && s <= to {
			l = append(l, n)
		}
	}
	return l
}

// P11.3
func TestOwnerAndTargetOfEveryEdge(t *testing.T) {
	for _, r := range everyOdd() {
		for _, part := range numbers() {
			if got := ring.Owner(r, part); got != ownerOf(r, part) {
				t.Errorf("Owner(%v, %d) = %d", r, part, got)
			}
			if got := ring.Target(r, part); got != targetOf(r, part) {
				t.Errorf("Target(%v, %d) = %d", r, part, got)
			}
		}
	}
}

// P11.3
func TestMoving(t *testing.T) {
	for _, x := range []struct {
		name   string
		change func(r *api.Ring)
		node   int
		want   []int
	}{
		{"all its parts", func(r *api.Ring) {}, 1, []int{0, 4, 8}},
		{"all but one that stays", func(r *api.Ring) { r.Plan.Targets[5] = 3 }, 3, []int{1, 9, 13}},
		{"one of them", func(r *api.Ring) { r.Plan.Targets = but(all(5), 15, 2) }, 5, []int{15}},
		{"every part there is", func(r *api.Ring) { *r, _ = ring.First(6); r.Plan = planned(1, 6, all(0)...) }, 6, []int{0, 1, 2, 3, 4, 5, 6, 7, 8, 9, 10, 11, 12, 13, 14, 15}},
		{"from the first node to the last", func(r *api.Ring) { r.Parts[3], r.Plan.Targets[3] = at(9, 0), 7 }, 0, []int{3}},
		{"from the last node to the first", func(r *api.Ring) { r.Parts[3], r.Plan.Targets[3] = at(9, 7), 0 }, 7, []int{3}},
		{"to a node that is gone", func(r *api.Ring) { r.Plan.Targets = all(6) }, 4, []int{2, 6, 10, 14}},
		{"none, as they all stay", func(r *api.Ring) { r.Plan.Targets = all(4) }, 4, nil},
		{"none, as none is its", func(r *api.Ring) {}, 2, nil},
		{"nobody's are not the first node's", func(r *api.Ring) {}, 0, nil},
		{"none without a plan", func(r *api.Ring) { r.Plan = api.Plan{} }, 1, nil},
		{"none with a plan that is not valid", func(r *api.Ring) { r.Plan.Targets[15] = 8 }, 1, nil},
		{"none with a target too few", func(r *api.Ring) { r.Plan.Targets = r.Plan.Targets[:15] }, 1, nil},
		{"not those whose entry is not valid", func(r *api.Ring) { r.Parts[0].Epoch, r.Parts[8].Epoch = 0, top+1 }, 1, []int{4}},
		{"whatever the status is", func(r *api.Ring) { r.Status[1] = 77 }, 1, []int{0, 4, 8}},
		{"what is no node, and owns what is nobody's", func(r *api.Ring) {}, -1, nil},
		{"what is no node, but an owner", func(r *api.Ring) { r.Parts[0].Owner = 8 }, 8, nil},
		{"what is no node, and negative, but an owner", func(r *api.Ring) { r.Parts[0].Owner = -1 }, -1, nil},
		{"what is no node, and there is no plan", func(r *api.Ring) { r.Plan = api.Plan{} }, -1, nil},
	} {
		r := with(some(), x.change)
		if got := ring.Moving(r, x.node); !slices.Equal(got, x.want) {
			t.Errorf("%s: Moving(%v, %d) = %v", x.name, r, x.node, got)
		}
	}
}

// P11.3
func TestMovingOfEveryEdge(t *testing.T) {
	for _, r := range everyOdd() {
		for _, node := range numbers() {
			if got := ring.Moving(r, node); !slices.Equal(got, movingOf(r, node)) {
				t.Errorf("Moving(%v, %d) = %v", r, node, got)
			}
		}
	}
}

// P11.3
func TestOf(t *testing.T) {
	odd := with(some(), func(r *api.Ring) { r.Status[0], r.Status[7] = -3, 9 })
	for _, x := range []struct {
		name     string
		r        api.Ring
		from, to int
		want     []int
	}{
		{"the members", some(), 2, 2, []int{1, 3, 4}},
		{"those who join", some(), 1, 1, []int{2}},
		{"those who leave", some(), 3, 3, []int{5}},
		{"those who are gone", some(), 4, 4, []int{6}},
		{"the others", some(), 0, 0, []int{0, 7}},
		{"all who are here", some(), 1, 3, []int{1, 2, 3, 4, 5}},
		{"members, and those who leave", some(), 2, 3, []int{1, 3, 4, 5}},
		{"everybody", some(), 0, 4, []int{0, 1, 2, 3, 4, 5, 6, 7}},
		{"everybody and more", some(), math.MinInt, math.MaxInt, []int{0, 1, 2, 3, 4, 5, 6, 7}},
		{"nobody, as from is after to", some(), 3, 2, nil},
		{"nobody, as from is after to by far", some(), math.MaxInt, math.MinInt, nil},
		{"nobody above", some(), 5, math.MaxInt, nil},
		{"nobody below", some(), math.MinInt, -1, nil},
		{"nobody in an empty ring", api.Ring{}, 1, 4, nil},
		{"statuses that are not valid", odd, 5, 9, []int{7}},
		{"statuses that are negative", odd, -3, -3, []int{0}},
		{"a ring that is not valid", with(odd, func(r *api.Ring) { r.Plan.By, r.Parts[0].Epoch = 9, -1 }), 2, 2, []int{1, 3, 4}},
	} {
		if got := ring.Of(x.r, x.from, x.to); !slices.Equal(got, x.want) {
			t.Errorf("%s: Of(%v, %d, %d) = %v", x.name, x.r, x.from, x.to, got)
		}
	}
}

// P11.3
func TestOfEveryEdge(t *testing.T) {
	for _, r := range everyOdd() {
		for from := -2; from <= 6; from++ {
			for to := -2; to <= 6; to++ {
				if got := ring.Of(r, from, to); !slices.Equal(got, nodesOf(r, from, to)) {
					t.Errorf("Of(%v, %d, %d) = %v", r, from, to, got)
				}
			}
		}
	}
	for _, from := range numbers() {
		for _, to := range numbers() {
			if got := ring.Of(some(), from, to); !slices.Equal(got, nodesOf(some(), from, to)) {
				t.Errorf("Of(.., %d, %d) = %v", from, to, got)
			}
		}
	}
}

// P11.4, T1: the sum of two rings is above both, and below whatever is above both.
func TestJoinIsTheLeastAbove(t *testing.T) {
	r := rand.New(rand.NewSource(1))
	above := 0
	for n := range 20000 {
		a, b, c := drawn(r, n%2 == 0), drawn(r, n%2 == 0), drawn(r, n%2 == 0)
		sum := ring.Join(a, b)
		if !ring.Below(a, sum) || !ring.Below(b, sum) || !isBelow(a, sum) || !isBelow(b, sum) {
			t.Fatalf("Join(%v, %v) = %v is not above both", a, b, sum)
		}
		if ring.Below(a, b) != isBelow(a, b) || ring.Below(sum, a) != isBelow(b, a) {
			t.Fatalf("Below of %v and %v is wrong", a, b)
		}
		for _, high := range []api.Ring{c, ring.Join(sum, c)} {
			if !isBelow(a, high) || !isBelow(b, high) {
				continue
			}
			above++
			if !ring.Below(sum, high) {
				t.Fatalf("Join(%v, %v) = %v is not below %v", a, b, sum, high)
			}
		}
	}
	if above == 0 {
		t.Error("nothing was above two rings")
	}
}

// P11.4: it does not matter in which order rings are joined, or how often.
func TestJoinInAnyOrder(t *testing.T) {
	r := rand.New(rand.NewSource(2))
	odd := everyOdd()
	for n := range 3000 {
		var l []api.Ring
		for range 1 + r.Intn(7) {
			l = append(l, drawn(r, n%2 == 0), odd[r.Intn(len(odd))])
		}
		want := joined(l)
		twice := append(slices.Clone(l), l...)
		r.Shuffle(len(twice), func(i, k int) { twice[i], twice[k] = twice[k], twice[i] })
		half := r.Intn(len(twice))
		left, right := joined(twice[:half+1]), joined(twice[half:])
		if got := joined(twice); !isEqual(got, want) {
			t.Errorf("%v joined are %v, and not always", l, want)
		}
		if !isEqual(ring.Join(left, right), want) || !isEqual(ring.Join(right, left), want) || !isEqual(ring.Join(want, want), want) {
			t.Errorf("%v joined are %v, and not always", l, want)
		}
		for _, x := range l {
			if !ring.Below(x, want) {
				t.Errorf("%v is not below %v", x, want)
			}
		}
	}
}

// joined is the rings of l, of which there is one at least, joined one by one.
func joined(l []api.Ring) api.Ring {
	sum := l[0]
	for _, x := range l[1:] {
		sum = ring.Join(sum, x)
	}
	return sum
}

// P11.4, T1: rings are below one another if and only if they are joined to the
// greater one, and both ways only if they are the same.
func TestBelowIsAnOrder(t *testing.T) {
	r := rand.New(rand.NewSource(3))
	l := []api.Ring{{}, some()}
	for n := range 60 {
		x := drawn(r, n%2 == 0)
		l = append(l, x, ring.Join(x, some()), with(x, func(r *api.Ring) { r.Status[n%8]++ }))
	}
	for _, a := range l {
		for _, b := range l {
			if ring.Same(a, b) != (ring.Below(a, b) && ring.Below(b, a)) || !ring.Below(a, a) {
				t.Fatalf("%v and %v are below one another", a, b)
			}
			for _, c := range l {
				if ring.Below(a, b) && ring.Below(b, c) && !ring.Below(a, c) {
					t.Fatalf("%v, %v and %v are no order", a, b, c)
				}
			}
		}
	}
}

// P11.2, P11.4, T1, T2: what is made of valid rings is valid, and above them; no
// owner changes without its epoch.
func TestWhatIsMadeRises(t *testing.T) {
	r := rand.New(rand.NewSource(4))
	for range 300 {
		var known [3]api.Ring
		known[0], _ = ring.First(r.Intn(8))
		last := [16]int{}
		for range 60 {
			i, k := r.Intn(3), r.Intn(3)
			if next, errno := ring.Rise(known[k], r.Intn(8), r.Intn(6)); errno == api.OK {
				if !ring.May(next) || !ring.Below(known[k], next) || ring.Same(known[k], next) {
					t.Fatalf("%v rose to %v", known[k], next)
				}
				known[k] = next
			}
			// Each epoch of a part is given away once.
			part := r.Intn(16)
			last[part] = max(last[part], 1) + 1
			known[k].Parts[part] = at(last[part], r.Intn(8))
			before := known[i]
			known[i] = ring.Join(known[i], known[k])
			if !ring.May(known[i]) || !ring.Below(before, known[i]) {
				t.Fatalf("%v became %v", before, known[i])
			}
			for part := range 16 {
				was, now := before.Parts[part], known[i].Parts[part]
				if was.Epoch == now.Epoch && was.Owner != now.Owner || now.Epoch < was.Epoch {
					t.Fatalf("the owner of %d became %v after %v", part, now, was)
				}
			}
		}
	}
}

// overwrite changes l, and the memory behind it.
func overwrite(l []int) {
	l = l[:cap(l)]
	for i := range l {
		l[i] = -77
	}
}

// P11.2, R2: what Join and Rise return shares no memory with what they were given.
func TestResultsAreNewMemory(t *testing.T) {
	less := with(some(), func(r *api.Ring) { r.Plan.Version = 2 })
	none := with(some(), func(r *api.Ring) { r.Plan = planned(0, 0, all(3)[:0]...) })
	for _, x := range []struct {
		name string
		call func(r api.Ring) api.Ring
	}{
		{"Join with a lesser plan", func(r api.Ring) api.Ring { return ring.Join(r, less) }},
		{"Join to a lesser plan", func(r api.Ring) api.Ring { return ring.Join(less, r) }},
		{"Join with itself", func(r api.Ring) api.Ring { return ring.Join(r, r) }},
		{"Join with no plan", func(r api.Ring) api.Ring { return ring.Join(r, none) }},
		{"Join to no plan", func(r api.Ring) api.Ring { return ring.Join(none, r) }},
		{"Rise", func(r api.Ring) api.Ring { next, _ := ring.Rise(r, 0, 1); return next }},
		{"Rise without a plan", func(r api.Ring) api.Ring {
			r.Plan = planned(0, 0, r.Plan.Targets[:0]...)
			next, _ := ring.Rise(r, 0, 1)
			return next
		}},
	} {
		r := with(some(), func(r *api.Ring) { r.Plan.Targets = append(r.Plan.Targets, 1, 2, 3)[:16] })
		overwrite(x.call(r).Plan.Targets)
		if !slices.Equal(r.Plan.Targets[:19], append(mixed(), 1, 2, 3)) {
			t.Errorf("%s: what it was given became %v", x.name, r)
		}
		got := x.call(r)
		was := slices.Clone(got.Plan.Targets)
		overwrite(r.Plan.Targets)
		if !slices.Equal(got.Plan.Targets, was) {
			t.Errorf("%s: what it returned became %v", x.name, got)
		}
	}
}

// P11.3, R2: lists are new at each call.
func TestListsAreNewMemory(t *testing.T) {
	r := some()
	overwrite(ring.Moving(r, 1))
	overwrite(ring.Of(r, 0, 4))
	if got := ring.Moving(r, 1); !slices.Equal(got, []int{0, 4, 8}) {
		t.Errorf("Moving = %v", got)
	}
	if got := ring.Of(r, 2, 2); !slices.Equal(got, []int{1, 3, 4}) {
		t.Errorf("Of = %v", got)
	}
}

// P11.1 to P11.3, R2: no call changes what it is given.
func TestArgumentsStay(t *testing.T) {
	for _, x := range append(everyOdd(), some()) {
		a := with(x, func(r *api.Ring) { r.Plan.Targets = append(r.Plan.Targets, 8, 9) })
		room := slices.Clone(a.Plan.Targets)
		a.Plan.Targets = a.Plan.Targets[:len(room)-2]
		b := with(some(), func(r *api.Ring) { r.Plan.Version = 2 })
		ring.May(a)
		ring.Join(a, b)
		ring.Join(b, a)
		ring.Below(a, b)
		ring.Below(b, a)
		ring.Same(a, b)
		ring.Rise(a, 0, 1)
		ring.Owner(a, 3)
		ring.Target(a, 3)
		ring.Moving(a, 1)
		ring.Of(a, 1, 3)
		if !isEqual(a, x) || !slices.Equal(a.Plan.Targets[:len(room)], room) || !slices.Equal(b.Plan.Targets, mixed()) {
			t.Errorf("%v became %v", x, a)
		}
	}
}

// P11.1, P11.3: a list that is far too long is no plan's.
func TestManyTargets(t *testing.T) {
	r := with(some(), func(r *api.Ring) { r.Plan.Targets = slices.Repeat([]int{3}, 1<<16) })
	if ring.May(r) || ring.Target(r, 1) != -1 || ring.Moving(r, 1) != nil || !ring.Below(some(), r) || ring.Below(r, some()) {
		t.Error("many targets are a plan")
	}
	if got, errno := ring.Rise(r, 0, 1); errno != api.ErrArg || !isEqual(got, api.Ring{}) {
		t.Errorf("Rise = %v, %d", got, errno)
	}
}

// P11.4, R6: nothing is kept from call to call, in whatever order the calls come.
func TestNothingIsKept(t *testing.T) {
	r := rand.New(rand.NewSource(5))
	l := everyOdd()
	want := make([]api.Ring, len(l))
	for i, x := range l {
		want[i] = ring.Join(x, some())
	}
	var workers sync.WaitGroup
	for worker := range 4 {
		order := r.Perm(len(l))
		workers.Go(func() {
			for _, i := range order {
				if got := ring.Join(some(), l[i]); !isEqual(got, want[i]) || ring.May(l[i]) != isRing(l[i]) {
					t.Errorf("worker %d: Join(.., %v) = %v", worker, l[i], got)
				}
				if got := ring.Moving(l[i], i%8); !slices.Equal(got, movingOf(l[i], i%8)) {
					t.Errorf("worker %d: Moving(%v, %d) = %v", worker, l[i], i%8, got)
				}
				ring.Rise(l[i], i%8, i%5)
			}
		})
	}
	workers.Wait()
}
