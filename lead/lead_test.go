package lead_test

import (
	"math"
	"math/rand"
	"slices"
	"sync"
	"testing"

	"starling/api"
	"starling/claim"
	"starling/entry"
	"starling/lead"
	"starling/ring"
)

const top = 1000000 // the last version, and the last epoch

// all is a list by which each part belongs to node.
func all(node int) []int {
	return slices.Repeat([]int{node}, 16)
}

// shared is a list by which each of nodes has equally many parts that lie
// beside one another, the first one those from 0 on.
func shared(nodes ...int) []int {
	var l []int
	for _, node := range nodes {
		l = append(l, slices.Repeat([]int{node}, 16/len(nodes))...)
	}
	return l
}

// but is l with another number at one place.
func but(l []int, i, n int) []int {
	l = slices.Clone(l)
	l[i] = n
	return l
}

func everybody() []int {
	return []int{0, 1, 2, 3, 4, 5, 6, 7}
}

// of is a ring of these statuses, in which the parts belong to owners, or to
// nobody if that is -1.
func of(status [8]int, owners []int) api.Ring {
	r := api.Ring{Status: status}
	for part, owner := range owners {
		if owner >= 0 {
			r.Parts[part] = api.Entry{Epoch: 1, Owner: owner}
		}
	}
	return r
}

// planned is r with a plan.
func planned(r api.Ring, version, by int, targets ...int) api.Ring {
	r.Plan = api.Plan{Version: version, By: by, Targets: targets}
	return r
}

// with is r with something changed.
func with(r api.Ring, change func(r *api.Ring)) api.Ring {
	r.Plan.Targets = slices.Clone(r.Plan.Targets)
	change(&r)
	return r
}

// numbers are those at which a call may answer otherwise, and their neighbours,
// and numbers that are one of them in fewer bits.
func numbers() []int {
	return []int{
		math.MinInt, math.MinInt + 1, -1 << 32, -top, -2, -1, 0, 1, 2, 3, 4, 5, 6, 7, 8, 9,
		14, 15, 16, 17, 255, 256, 259, top - 1, top, top + 1, 1 << 32, 1<<32 + 1, math.MaxInt - 1, math.MaxInt,
	}
}

// isEqual holds two rings against each other, field by field.
func isEqual(a, b api.Ring) bool {
	return a.Status == b.Status && a.Parts == b.Parts && a.Plan.Version == b.Plan.Version &&
		a.Plan.By == b.Plan.By && slices.Equal(a.Plan.Targets, b.Plan.Targets)
}

// isGreater reports whether a came of b by greater statuses, a greater plan, or
// both.
func isGreater(a, b api.Ring) bool {
	for n := range 8 {
		if a.Status[n] < b.Status[n] {
			return false
		}
	}
	samePlan := isEqual(api.Ring{Plan: a.Plan}, api.Ring{Plan: b.Plan})
	return a.Parts == b.Parts && (a.Plan.Version > b.Plan.Version || samePlan && a.Status != b.Status)
}

// leaderOf is P12.1, status by status.
func leaderOf(r api.Ring, here []int) int {
	for n := range 8 {
		if (r.Status[n] == 2 || r.Status[n] == 3) && slices.Contains(here, n) {
			return n
		}
	}
	return -1
}

// hasPart reports whether the node has, or is to have, one part at least.
func hasPart(r api.Ring, node int) bool {
	for part := range 16 {
		owned := r.Parts[part].Epoch > 0 && r.Parts[part].Owner == node
		if owned || len(r.Plan.Targets) > 0 && r.Plan.Targets[part] == node {
			return true
		}
	}
	return false
}

// stageOf is P12.2, step by step.
func stageOf(r api.Ring, self int, here []int) (api.Ring, api.Errno) {
	if !ring.May(r) || self < 0 || self > 7 {
		return api.Ring{}, 1
	}
	if leaderOf(r, here) != self {
		return api.Ring{}, 10
	}
	next := with(r, func(*api.Ring) {})
	var members []int
	for n, s := range r.Status {
		if s == 1 || s == 2 {
			members = append(members, n)
			next.Status[n] = 2
		}
	}
	now := slices.Clone(r.Plan.Targets)
	for part := 0; part < 16 && len(r.Plan.Targets) == 0; part++ {
		now = append(now, ring.Owner(r, part))
	}
	if want := claim.Assign(now, members); len(members) > 0 && !slices.Equal(want, r.Plan.Targets) {
		if r.Plan.Version == top {
			return api.Ring{}, 6
		}
		next.Plan = api.Plan{Version: r.Plan.Version + 1, By: self, Targets: want}
	}
	for n, s := range r.Status {
		if s == 3 && !hasPart(next, n) {
			next.Status[n] = 4
		}
	}
	if isEqual(next, r) {
		return api.Ring{}, 9
	}
	return next, 0
}

// settledOf is P12.3, part by part.
func settledOf(r api.Ring) bool {
	for part := range 16 {
		if ring.Target(r, part) < 0 || ring.Target(r, part) != ring.Owner(r, part) {
			return false
		}
	}
	return !slices.Contains(r.Status[:], 1) && !slices.Contains(r.Status[:], 3)
}

// drawn is a valid ring that r draws: one in which few nodes have most parts, so
// that there is often little to do.
func drawn(r *rand.Rand) api.Ring {
	var x api.Ring
	nodes := r.Perm(8)[:1+r.Intn(4)]
	if r.Intn(3) == 0 {
		nodes = everybody()
	}
	for n := range 8 {
		x.Status[n] = r.Intn(5)
	}
	for i := range 16 {
		if r.Intn(8) > 0 {
			x.Parts[i] = api.Entry{Epoch: 1 + r.Intn(3), Owner: nodes[r.Intn(len(nodes))]}
		}
	}
	switch r.Intn(4) {
	case 0:
	case 1:
		x = planned(x, 1+r.Intn(3), r.Intn(8), claim.Assign(nil, nodes)...)
	case 2:
		x = planned(x, top-r.Intn(2), r.Intn(8), claim.Assign(nil, ring.Of(x, 1, 2))...)
		if len(x.Plan.Targets) == 0 {
			x.Plan = api.Plan{}
		}
	case 3:
		x = planned(x, top-r.Intn(2), r.Intn(8), all(nodes[0])...)
		for i := range 16 {
			x.Plan.Targets[i] = nodes[r.Intn(len(nodes))]
		}
	}
	return x
}

// drawnHere is a list of nodes, and sometimes others, that r draws.
func drawnHere(r *rand.Rand) []int {
	l := append(r.Perm(8)[:r.Intn(9)], r.Perm(8)[:r.Intn(3)]...)
	if r.Intn(3) == 0 {
		every := numbers()
		l = append(l, every[r.Intn(len(every))])
	}
	return l
}

// everyOdd is rings that differ from a settled one in one number each, valid or
// not.
func everyOdd() []api.Ring {
	base := planned(of([8]int{0, 2, 2, 0, 2, 4, 0, 2}, shared(1, 2, 4, 7)), 7, 3, shared(1, 2, 4, 7)...)
	l := []api.Ring{base}
	odd := func(change func(r *api.Ring)) { l = append(l, with(base, change)) }
	for _, x := range numbers() {
		for n := range 8 {
			odd(func(r *api.Ring) { r.Status[n] = x })
		}
		for i := range 16 {
			odd(func(r *api.Ring) { r.Parts[i].Epoch = x })
			odd(func(r *api.Ring) { r.Parts[i].Owner = x })
			odd(func(r *api.Ring) { r.Plan.Targets[i] = x })
		}
		odd(func(r *api.Ring) { r.Plan.Version = x })
		odd(func(r *api.Ring) { r.Plan.By = x })
		odd(func(r *api.Ring) { r.Plan = api.Plan{Version: x} })
		odd(func(r *api.Ring) { r.Plan = api.Plan{By: x} })
	}
	for n := range 18 {
		odd(func(r *api.Ring) { r.Plan.Targets = append(slices.Clone(r.Plan.Targets), 1, 2)[:n] })
	}
	return l
}

// P12.1
func TestLeader(t *testing.T) {
	r := of([8]int{0, 1, 3, 4, 2, 4, 2, 3}, nil)
	odd := with(r, func(r *api.Ring) {
		r.Status[0], r.Status[1], r.Status[2] = 9, math.MinInt, 1<<32+2
		r.Plan.Version, r.Parts[4].Owner = -1, 8
	})
	for _, x := range []struct {
		name string
		r    api.Ring
		here []int
		want int
	}{
		{"one that leaves still leads", r, everybody(), 2},
		{"in whatever order they are told", r, []int{7, 6, 5, 4, 3, 2, 1, 0}, 2},
		{"a member, as the one that leaves is not here", r, []int{0, 1, 3, 4, 5, 6, 7}, 4},
		{"the next member", r, []int{7, 6}, 6},
		{"one that leaves is the last one", r, []int{7}, 7},
		{"told twice", r, []int{7, 6, 7, 6}, 6},
		{"none is here", r, nil, -1},
		{"none that joins", r, []int{1}, -1},
		{"none that is gone, or is not known", r, []int{0, 3, 5}, -1},
		{"those that are no nodes do not count", r, []int{-1, 8, math.MinInt, 1 << 32, 1<<32 + 2, math.MaxInt, 6}, 6},
		{"none but those that are no nodes", r, []int{-1, 8, 1<<32 + 4}, -1},
		{"none in an empty ring", api.Ring{}, everybody(), -1},
		{"none while all join", of([8]int{1, 1, 1, 1, 1, 1, 1, 1}, all(0)), everybody(), -1},
		{"none when all are gone", of([8]int{4, 4, 4, 4, 4, 4, 4, 4}, all(0)), everybody(), -1},
		{"the last node", of([8]int{7: 2}, nil), everybody(), 7},
		{"statuses that are not valid do not lead", odd, everybody(), 4},
		{"very many are here", r, append(slices.Repeat([]int{0, 1, 9}, 1<<16), 4), 4},
	} {
		if got := lead.Leader(x.r, x.here); got != x.want {
			t.Errorf("%s: Leader = %d, and not %d", x.name, got, x.want)
		}
	}
}

// P12.1: each status of each node, whoever is here.
func TestLeaderOfEveryStatus(t *testing.T) {
	r := rand.New(rand.NewSource(1))
	every := append(numbers(), 1, 2, 2, 2, 3, 3, 3, 4)
	for range 20000 {
		var x api.Ring
		for n := range x.Status {
			x.Status[n] = every[r.Intn(len(every))]
		}
		here := drawnHere(r)
		if got := lead.Leader(x, here); got != leaderOf(x, here) {
			t.Fatalf("Leader(%v, %v) = %d", x.Status, here, got)
		}
	}
}

// P12.2: the example.
func TestExample(t *testing.T) {
	r, _ := ring.First(0)
	got, errno := lead.Stage(r, 0, []int{0})
	if want := planned(r, 1, 0, all(0)...); errno != 0 || !isEqual(got, want) {
		t.Errorf("Stage = %v, %d", got, errno)
	}
}

// P12.2
func TestStage(t *testing.T) {
	for _, x := range []struct {
		name string
		r    api.Ring
		self int
		want api.Ring
	}{
		{
			"the first plan has the parts belong to those who own them",
			of([8]int{2, 0, 2}, shared(0, 2, 0, 2)), 0,
			planned(of([8]int{2, 0, 2}, shared(0, 2, 0, 2)), 1, 0, shared(0, 2, 0, 2)...),
		},
		{
			"without a plan one that joins is given parts of the owners",
			of([8]int{2, 1}, all(0)), 0,
			planned(of([8]int{2, 2}, all(0)), 1, 0, shared(0, 1)...),
		},
		{
			"without a plan parts that belong to nobody are given to somebody",
			of([8]int{0, 0, 0, 2}, all(-1)), 3,
			planned(of([8]int{0, 0, 0, 2}, all(-1)), 1, 3, all(3)...),
		},
		{
			"with a plan it is the targets that count, and not the owners",
			planned(of([8]int{2, 2, 1, 1}, all(0)), 5, 1, shared(1, 0)...), 0,
			planned(of([8]int{2, 2, 2, 2}, all(0)), 6, 0, 1, 1, 1, 1, 2, 3, 2, 3, 0, 0, 0, 0, 2, 3, 2, 3),
		},
		{
			"the leader itself makes the plan, whoever made the one before",
			planned(of([8]int{0, 4, 0, 0, 0, 2, 0, 1}, all(5)), top-1, 1, all(1)...), 5,
			planned(of([8]int{0, 4, 0, 0, 0, 2, 0, 2}, all(5)), top, 5, slices.Repeat([]int{5, 7}, 8)...),
		},
		{
			"a plan that stays keeps its version and its maker, while those who join become members",
			planned(of([8]int{2, 1}, all(0)), top, 6, shared(0, 1)...), 0,
			planned(of([8]int{2, 2}, all(0)), top, 6, shared(0, 1)...),
		},
		{
			"one that leaves hands its parts to the others",
			planned(of([8]int{3, 2, 2}, shared(0, 1)), 2, 0, shared(0, 1)...), 0,
			planned(of([8]int{3, 2, 2}, shared(0, 1)), 3, 0, but(but(slices.Concat(slices.Repeat([]int{2}, 8), all(1)[8:]), 0, 2), 7, 2)...),
		},
		{
			"one that leaves and was to be given parts is gone at once if it owns none",
			planned(of([8]int{2, 3}, all(0)), 2, 0, shared(0, 1)...), 0,
			planned(of([8]int{2, 4}, all(0)), 3, 0, all(0)...),
		},
		{
			"one that leaves without any part is gone",
			planned(of([8]int{2, 0, 3, 3}, all(0)), 2, 1, all(0)...), 0,
			planned(of([8]int{2, 0, 4, 4}, all(0)), 2, 1, all(0)...),
		},
		{
			"one that leaves stays while a single part is its own",
			planned(of([8]int{2, 0, 3, 3}, but(all(0), 15, 3)), 2, 1, all(0)...), 0,
			planned(of([8]int{2, 0, 4, 3}, but(all(0), 15, 3)), 2, 1, all(0)...),
		},
		{
			"without a plan one that leaves is gone if it owns none",
			of([8]int{0, 3, 3}, all(1)), 1,
			of([8]int{0, 3, 4}, all(1)),
		},
		{
			"without members the plan stays, and who is to have no part is gone",
			planned(of([8]int{0, 3, 3, 3, 3}, all(2)), 8, 7, but(all(3), 0, 1)...), 1,
			planned(of([8]int{0, 3, 3, 3, 4}, all(2)), 8, 7, but(all(3), 0, 1)...),
		},
		{
			"a leader that leaves lets the others join",
			planned(of([8]int{0, 3, 1}, all(1)), 1, 1, all(1)...), 1,
			planned(of([8]int{0, 3, 2}, all(1)), 2, 1, all(2)...),
		},
		{
			"a leader that leaves is gone by its own work",
			planned(of([8]int{0, 3, 1}, all(-1)), 1, 1, all(2)...), 1,
			planned(of([8]int{0, 4, 2}, all(-1)), 1, 1, all(2)...),
		},
		{
			"those who are gone are given nothing, and lose what is theirs",
			planned(of([8]int{4, 2}, all(0)), 4, 0, shared(0, 1)...), 1,
			planned(of([8]int{4, 2}, all(0)), 5, 1, all(1)...),
		},
		{
			"the entries stay as they are, even of nodes that are not known",
			planned(of([8]int{2}, all(6)), 4, 0, all(6)...), 0,
			planned(of([8]int{2}, all(6)), 5, 0, all(0)...),
		},
	} {
		got, errno := lead.Stage(x.r, x.self, everybody())
		if errno != 0 || !isEqual(got, x.want) {
			t.Errorf("%s: Stage = %v, %d, and not %v", x.name, got, errno, x.want)
		}
	}
}

// P12.2: who is here says who leads, and nothing else: members that are not here
// keep their parts, and some who join are not here either.
func TestStageOfThoseWhoAreNotHere(t *testing.T) {
	r := planned(of([8]int{2, 2, 2, 1}, all(0)), 3, 0, shared(0, 1)...)
	want, _ := lead.Stage(r, 0, everybody())
	want.Plan.By = 2
	if got, errno := lead.Stage(r, 2, []int{-7, 2, 9, 2}); errno != 0 || !isEqual(got, want) || got.Status != [8]int{2, 2, 2, 2} {
		t.Errorf("Stage = %v, %d, and not %v", got, errno, want)
	}
}

// P12.2: the errors, in their order.
func TestStageErrors(t *testing.T) {
	alone := planned(of([8]int{2, 0, 4}, all(0)), 1, 0, all(0)...)
	full := planned(of([8]int{2, 1}, all(0)), top, 0, all(0)...)
	for _, x := range []struct {
		name string
		r    api.Ring
		self int
		here []int
		want api.Errno
	}{
		{"a status that is not valid", with(alone, func(r *api.Ring) { r.Status[3] = 5 }), 0, everybody(), 1},
		{"an entry that is not valid", with(alone, func(r *api.Ring) { r.Parts[15].Epoch = 0; r.Parts[15].Owner = 1 }), 0, everybody(), 1},
		{"a plan that is not valid", with(alone, func(r *api.Ring) { r.Plan.Version = 0 }), 0, everybody(), 1},
		{"a plan with too few targets", planned(alone, 1, 0, all(0)[:15]...), 0, everybody(), 1},
		{"self is no node", alone, 8, []int{0, 8}, 1},
		{"self is below all nodes", alone, -1, nil, 1},
		{"self is no node, and nobody leads", api.Ring{}, -1, everybody(), 1},
		{"not valid, ahead of somebody else's", with(alone, func(r *api.Ring) { r.Plan.By = 8 }), 1, everybody(), 1},
		{"not valid, ahead of a version that cannot rise", with(full, func(r *api.Ring) { r.Status[7] = -1 }), 0, everybody(), 1},
		{"another one leads", planned(of([8]int{2, 2}, all(0)), 1, 0, all(0)...), 1, everybody(), 10},
		{"self is not here", alone, 0, []int{1, 2, 3, 4, 5, 6, 7}, 10},
		{"nobody is here", alone, 0, nil, 10},
		{"self is joining", of([8]int{1}, all(0)), 0, everybody(), 10},
		{"self is gone", of([8]int{4}, all(0)), 0, everybody(), 10},
		{"self is not known", api.Ring{}, 0, everybody(), 10},
		{"somebody else's, ahead of a version that cannot rise", full, 1, everybody(), 10},
		{"somebody else's, ahead of nothing to change", alone, 2, everybody(), 10},
		{"a version that cannot rise, while one joins", full, 0, everybody(), 6},
		{"a version that cannot rise, while one is gone", planned(of([8]int{2, 0, 3}, all(0)), top, 0, all(1)...), 0, everybody(), 6},
		{"a version that cannot rise, and nothing else", planned(of([8]int{2}, all(0)), top, 0, all(1)...), 0, everybody(), 6},
		{"nothing changes", alone, 0, everybody(), 9},
		{"nothing changes, and the version could not rise", with(alone, func(r *api.Ring) { r.Plan.Version = top }), 0, everybody(), 9},
		{"nothing changes while parts still go over", planned(of([8]int{2, 2, 3}, all(2)), 4, 1, shared(0, 1)...), 0, everybody(), 9},
		{"nothing changes without members, while all have parts", planned(of([8]int{3, 3}, all(0)), 4, 1, all(1)...), 0, everybody(), 9},
		{"nothing changes without members and without a plan", of([8]int{3, 3}, shared(0, 1)), 0, everybody(), 9},
		{"nothing changes without members, and the version could not rise", planned(of([8]int{3}, all(0)), top, 0, all(0)...), 0, everybody(), 9},
	} {
		got, errno := lead.Stage(x.r, x.self, x.here)
		if errno != x.want || !isEqual(got, api.Ring{}) {
			t.Errorf("%s: Stage = %v, %d, and not %d", x.name, got, errno, x.want)
		}
	}
}

func checkStage(t *testing.T, r api.Ring, self int, here []int) {
	t.Helper()
	got, errno := lead.Stage(r, self, here)
	want, wanted := stageOf(r, self, here)
	if errno != wanted || !isEqual(got, want) {
		t.Errorf("Stage(%v, %d, %v) = %v, %d, and not %v, %d", r, self, here, got, errno, want, wanted)
	}
}

// P12.2
func TestStageOfEveryEdge(t *testing.T) {
	for _, r := range everyOdd() {
		for self := -1; self <= 8; self++ {
			checkStage(t, r, self, everybody())
			checkStage(t, r, self, []int{self})
		}
	}
	for _, self := range numbers() {
		checkStage(t, of([8]int{2, 2, 2, 2, 2, 2, 2, 2}, all(3)), self, []int{self})
		checkStage(t, api.Ring{}, self, []int{self})
	}
}

// P12.2: rings of all kinds, held against the promise step by step.
func TestStageStepByStep(t *testing.T) {
	r := rand.New(rand.NewSource(2))
	count := map[api.Errno]int{}
	for range 20000 {
		x, here := drawn(r), drawnHere(r)
		for self := range 8 {
			checkStage(t, x, self, here)
		}
		if leader := lead.Leader(x, here); leader >= 0 {
			_, errno := lead.Stage(x, leader, here)
			count[errno]++
		}
	}
	for _, errno := range []api.Errno{0, 6, 9} {
		if count[errno] < 100 {
			t.Errorf("%d was answered %d times only", errno, count[errno])
		}
	}
}

// P12.3
func TestSettled(t *testing.T) {
	done := planned(of([8]int{2, 2, 0, 4}, shared(0, 1)), 2, 0, shared(0, 1)...)
	first, _ := ring.First(5)
	for _, x := range []struct {
		name string
		r    api.Ring
		want bool
	}{
		{"each part is where it is to be", done, true},
		{"one node has all", planned(first, 1, 5, all(5)...), true},
		{"the versions have come to their end", with(done, func(r *api.Ring) { r.Plan.Version = top }), true},
		{"the epochs do not matter", with(done, func(r *api.Ring) { r.Parts[3].Epoch = top }), true},
		{"the first part is elsewhere", with(done, func(r *api.Ring) { r.Parts[0].Owner = 1 }), false},
		{"the last part is elsewhere", with(done, func(r *api.Ring) { r.Parts[15].Owner = 0 }), false},
		{"a part belongs to nobody", with(done, func(r *api.Ring) { r.Parts[0] = api.Entry{} }), false},
		{"all parts belong to nobody", planned(of([8]int{2}, all(-1)), 1, 0, all(0)...), false},
		{"the first part is to go", with(done, func(r *api.Ring) { r.Plan.Targets[0] = 1 }), false},
		{"the last part is to go", with(done, func(r *api.Ring) { r.Plan.Targets[15] = 2 }), false},
		{"the first node is joining", with(done, func(r *api.Ring) { r.Status[0] = 1 }), false},
		{"the last node is joining", with(done, func(r *api.Ring) { r.Status[7] = 1 }), false},
		{"the first node is leaving", with(done, func(r *api.Ring) { r.Status[0] = 3 }), false},
		{"the last node is leaving", with(done, func(r *api.Ring) { r.Status[7] = 3 }), false},
		{"all nodes are gone", with(done, func(r *api.Ring) { r.Status = [8]int{4, 4, 4, 4, 4, 4, 4, 4} }), true},
		{"no node is known", with(done, func(r *api.Ring) { r.Status = [8]int{} }), true},
		{"there is no plan", first, false},
		{"there is nothing at all", api.Ring{}, false},
		{"the plan is not valid", with(done, func(r *api.Ring) { r.Plan.Version = 0 }), false},
		{"the plan is not valid, and the parts belong to nobody", api.Ring{Plan: api.Plan{Targets: all(0)}}, false},
		{"the plan has too few targets", planned(done, 2, 0, shared(0, 1)[:15]...), false},
		{"the plan has too many targets", planned(done, 2, 0, append(shared(0, 1), 1)...), false},
		{"an entry is not valid", with(done, func(r *api.Ring) { r.Parts[0].Epoch = top + 1 }), false},
		{"no entry is valid, and all targets are no nodes", planned(of([8]int{2}, all(8)), 1, 0, all(-1)...), false},
	} {
		if got := lead.Settled(x.r); got != x.want {
			t.Errorf("%s: Settled(%v) = %v", x.name, x.r, got)
		}
	}
}

// P12.3: rings that differ in a single number from a settled one.
func TestSettledOfEveryEdge(t *testing.T) {
	settled := 0
	for _, r := range everyOdd() {
		if got := lead.Settled(r); got != settledOf(r) {
			t.Errorf("Settled(%v) = %v", r, got)
		}
		if settledOf(r) {
			settled++
		}
	}
	if settled < 100 {
		t.Errorf("%d were settled only", settled)
	}
}

// P12.4: what Stage returns is greater than the ring, and valid, and leaves
// nothing to do, neither for the same node nor for the one that leads then.
func TestStageRises(t *testing.T) {
	r := rand.New(rand.NewSource(3))
	done := 0
	for range 20000 {
		x, here := drawn(r), drawnHere(r)
		next, errno := lead.Stage(x, lead.Leader(x, here), here)
		if errno != 0 {
			continue
		}
		done++
		if !ring.May(next) || !ring.Below(x, next) || ring.Same(x, next) || !isGreater(next, x) {
			t.Fatalf("%v became %v, which is not greater", x, next)
		}
		for self := range 8 {
			again, errno := lead.Stage(next, self, here)
			want := api.ErrElse
			if self == lead.Leader(next, here) {
				want = api.ErrNone
			}
			if errno != want || !isEqual(again, api.Ring{}) {
				t.Fatalf("%v became %v, and then, by %d, %v, %d", x, next, self, again, errno)
			}
		}
	}
	if done < 1000 {
		t.Errorf("%d rings were changed only", done)
	}
}

// P12.2 to P12.4, T5: nodes come and go, whoever leads does its work, and parts
// go over one by one; once nobody comes or goes any more, the ring settles, with
// the parts dealt out evenly, and those who left gone.
func TestRingsSettle(t *testing.T) {
	r := rand.New(rand.NewSource(4))
	for range 300 {
		x, _ := ring.First(r.Intn(8))
		for range 40 {
			if next, errno := ring.Rise(x, r.Intn(8), 1); errno == 0 {
				x = next
			}
			// The last member stays, so that there is somebody to hand parts to.
			if l := ring.Of(x, 2, 2); len(l) > 1 && r.Intn(3) == 0 {
				x, _ = ring.Rise(x, l[r.Intn(len(l))], 3)
			}
			x = worked(t, x)
			x = handed(x, r.Intn(4))
		}
		for range 20 {
			x = handed(worked(t, x), 16)
		}
		members := ring.Of(x, 2, 2)
		for i, quota := range claim.Quotas(x.Plan.Targets, members) {
			has := 0
			for part := range 16 {
				if ring.Owner(x, part) == members[i] {
					has++
				}
			}
			if has != quota {
				t.Errorf("%d has %d parts in %v, and not %d", members[i], has, x, quota)
			}
		}
		if !lead.Settled(x) || len(ring.Of(x, 1, 1)) > 0 || len(ring.Of(x, 3, 3)) > 0 {
			t.Errorf("%v is not settled", x)
		}
	}
}

// worked is x after whoever leads has done its work.
func worked(t *testing.T, x api.Ring) api.Ring {
	t.Helper()
	next, errno := lead.Stage(x, lead.Leader(x, everybody()), everybody())
	switch errno {
	case api.OK:
		return next
	case api.ErrNone:
		return x
	}
	t.Fatalf("Stage of %v = %d", x, errno)
	return x
}

// handed is x after at most n parts went over to their targets.
func handed(x api.Ring, n int) api.Ring {
	for part := range 16 {
		if target := ring.Target(x, part); n > 0 && target >= 0 && target != ring.Owner(x, part) {
			x.Parts[part], _ = entry.Flip(x.Parts[part], target)
			n--
		}
	}
	return x
}

// P12.2, R2: what Stage returns shares no memory with what it was given, whether
// the plan is new or the same one.
func TestResultsAreNewMemory(t *testing.T) {
	for _, x := range []struct {
		name string
		r    api.Ring
	}{
		{"the plan is new", planned(of([8]int{2, 1}, all(0)), 2, 0, all(0)...)},
		{"there was no plan", of([8]int{2, 1}, all(0))},
		{"the plan stays", planned(of([8]int{2, 1}, all(0)), 2, 0, shared(0, 1)...)},
		{"the plan stays, and one is gone", planned(of([8]int{2, 3}, all(0)), 2, 0, all(0)...)},
	} {
		kept := with(x.r, func(*api.Ring) {})
		here := everybody()
		got, errno := lead.Stage(x.r, 0, here)
		want := with(got, func(*api.Ring) {})
		overwrite(x.r.Plan.Targets)
		overwrite(here)
		if errno != 0 || !isEqual(got, want) {
			t.Errorf("%s: %v became %v", x.name, want, got)
		}
		again := with(kept, func(*api.Ring) {})
		got, _ = lead.Stage(again, 0, everybody())
		overwrite(got.Plan.Targets)
		if !isEqual(again, kept) {
			t.Errorf("%s: %v became %v", x.name, kept, again)
		}
		if got, _ = lead.Stage(again, 0, everybody()); !isEqual(got, want) {
			t.Errorf("%s: Stage = %v at the second time", x.name, got)
		}
	}
}

// overwrite writes into all the memory that belongs to l.
func overwrite(l []int) {
	l = l[:cap(l)]
	for i := range l {
		l[i] = -5
	}
}

// P12.1 to P12.3, R2: no call changes what it is given, or looks beyond it.
func TestArgumentsStay(t *testing.T) {
	for _, x := range everyOdd() {
		x.Status[3], x.Status[6] = 1, 3
		room := append(slices.Clone(x.Plan.Targets), 7, 7, 7)
		people := []int{4, 2, 7, 7, 1, 1}
		a, here := x, people[:3]
		a.Plan.Targets = room[:len(x.Plan.Targets)]
		before := slices.Clone(room)
		if lead.Leader(a, here) != leaderOf(x, []int{4, 2, 7}) {
			t.Errorf("Leader of %v looks beyond %v", x, here)
		}
		for self := range 8 {
			checkStage(t, a, self, here)
		}
		lead.Settled(a)
		if !isEqual(a, x) || !slices.Equal(room, before) || !slices.Equal(people, []int{4, 2, 7, 7, 1, 1}) {
			t.Errorf("%v became %v", x, a)
		}
	}
}

// P12.2, P12.3: a list that is far too long is no plan's.
func TestManyTargets(t *testing.T) {
	r := planned(of([8]int{2}, all(0)), 1, 0, slices.Repeat([]int{0}, 1<<16)...)
	if got, errno := lead.Stage(r, 0, everybody()); errno != 1 || !isEqual(got, api.Ring{}) || lead.Settled(r) {
		t.Errorf("Stage = %v, %d", got, errno)
	}
}

// P12.1 to P12.4, R6: nothing is kept from call to call, in whatever order the
// calls come.
func TestNothingIsKept(t *testing.T) {
	r := rand.New(rand.NewSource(5))
	var l []api.Ring
	for range 2000 {
		l = append(l, drawn(r))
	}
	var workers sync.WaitGroup
	for range 4 {
		order := r.Perm(len(l))
		workers.Go(func() {
			for _, i := range order {
				checkStage(t, l[i], leaderOf(l[i], everybody()), everybody())
				if lead.Leader(l[i], everybody()) != leaderOf(l[i], everybody()) || lead.Settled(l[i]) != settledOf(l[i]) {
					t.Errorf("%v is told otherwise", l[i])
				}
			}
		})
	}
	workers.Wait()
}
