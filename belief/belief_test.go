package belief_test

import (
	"math"
	"math/rand"
	"slices"
	"testing"

	"starling/api"
	"starling/belief"
	"starling/health"
)

func claim(node, inc, status int) api.Claim {
	return api.Claim{Node: node, Inc: inc, Health: status}
}

// heard is a view that heard these claims in this order.
func heard(claims ...api.Claim) *belief.View {
	v := belief.New()
	for _, c := range claims {
		v.Hear(c)
	}
	return v
}

// mustBelieve holds everything that v answers against the claims that it must
// believe, which are in ascending order.
func mustBelieve(t *testing.T, v *belief.View, want ...api.Claim) {
	t.Helper()
	if got := v.All(); !slices.Equal(got, want) {
		t.Errorf("All() = %v, not %v", got, want)
	}
	var here []int
	of := [api.Nodes]api.Claim{}
	for node := range of {
		of[node].Node = node
	}
	for _, c := range want {
		of[c.Node] = c
		if c.Health == api.HAlive || c.Health == api.HSuspect {
			here = append(here, c.Node)
		}
	}
	if got := v.Here(); !slices.Equal(got, here) {
		t.Errorf("Here() = %v, not %v", got, here)
	}
	for node, c := range of {
		if got := v.Of(node); got != c {
			t.Errorf("Of(%d) = %v, not %v", node, got, c)
		}
	}
}

// P2.1
func TestNew(t *testing.T) {
	v := belief.New()
	mustBelieve(t, v)
	v.Hear(claim(3, 1, api.HAlive))
	mustBelieve(t, belief.New())
	mustBelieve(t, v, claim(3, 1, api.HAlive))
}

// P2.1: a view that New did not make is one in which nothing is said as well.
func TestZeroView(t *testing.T) {
	var v belief.View
	mustBelieve(t, &v)
	if !v.Hear(claim(0, 0, api.HAlive)) {
		t.Error("not stored")
	}
	mustBelieve(t, &v, claim(0, 0, api.HAlive))
}

// P2.1
func TestHear(t *testing.T) {
	const top = api.MaxInc
	for _, x := range []struct {
		name      string
		before, c api.Claim
		want      bool
	}{
		{"alive, the least incarnation", claim(0, 0, api.HNone), claim(0, 0, api.HAlive), true},
		{"the last node, the greatest incarnation", claim(7, 0, api.HNone), claim(7, top, api.HDead), true},
		{"suspected, of whom nothing is said", claim(3, 0, api.HNone), claim(3, 0, api.HSuspect), true},
		{"left, of whom nothing is said", claim(3, 0, api.HNone), claim(3, 0, api.HLeft), true},
		{"alive becomes suspected", claim(3, 1, api.HAlive), claim(3, 1, api.HSuspect), true},
		{"alive becomes dead", claim(3, 1, api.HAlive), claim(3, 1, api.HDead), true},
		{"suspected becomes dead", claim(3, 1, api.HSuspect), claim(3, 1, api.HDead), true},
		{"suspected becomes alive with a greater incarnation", claim(3, 1, api.HSuspect), claim(3, 2, api.HAlive), true},
		{"dead becomes alive with a greater incarnation", claim(3, 1, api.HDead), claim(3, 2, api.HAlive), true},
		{"dead leaves with a smaller incarnation", claim(3, 9, api.HDead), claim(3, 0, api.HLeft), true},
		{"the same", claim(3, 1, api.HAlive), claim(3, 1, api.HAlive), false},
		{"the example: suspected with an elder incarnation", claim(3, 1, api.HAlive), claim(3, 0, api.HSuspect), false},
		{"dead with an elder incarnation", claim(3, 1, api.HAlive), claim(3, 0, api.HDead), false},
		{"suspected, and alive with the same incarnation", claim(3, 1, api.HSuspect), claim(3, 1, api.HAlive), false},
		{"dead, and suspected with the same incarnation", claim(3, 1, api.HDead), claim(3, 1, api.HSuspect), false},
		{"left, and alive with the greatest incarnation", claim(3, 0, api.HLeft), claim(3, top, api.HAlive), false},
		{"left, and left with a greater incarnation", claim(3, 4, api.HLeft), claim(3, 9, api.HLeft), false},
		{"left, and left with a smaller incarnation", claim(3, 4, api.HLeft), claim(3, 0, api.HLeft), false},
		{"nothing is said, and nothing was", claim(3, 0, api.HNone), claim(3, 0, api.HNone), false},
		{"nothing is said, and something was", claim(3, 0, api.HAlive), claim(3, 0, api.HNone), false},
		{"nothing is said, with an incarnation", claim(3, 0, api.HNone), claim(3, 1, api.HNone), false},
		{"too great an incarnation", claim(3, 1, api.HAlive), claim(3, top+1, api.HAlive), false},
		{"left with too great an incarnation", claim(3, 1, api.HAlive), claim(3, top+1, api.HLeft), false},
		{"a negative incarnation", claim(3, 0, api.HNone), claim(3, -1, api.HAlive), false},
		{"left with a negative incarnation", claim(3, 0, api.HNone), claim(3, -1, api.HLeft), false},
		{"a health after the last", claim(3, 1, api.HAlive), claim(3, 1, api.HLeft+1), false},
		{"a negative health", claim(3, 1, api.HAlive), claim(3, 2, -1), false},
		{"a node after the last", claim(3, 1, api.HAlive), claim(api.Nodes, 2, api.HAlive), false},
		{"a negative node", claim(3, 1, api.HAlive), claim(-1, 2, api.HAlive), false},
		{"the greatest of all numbers", claim(3, 1, api.HAlive), claim(math.MaxInt, math.MaxInt, math.MaxInt), false},
		{"the smallest of all numbers", claim(3, 1, api.HAlive), claim(math.MinInt, math.MinInt, math.MinInt), false},
	} {
		v := heard(x.before)
		if got := v.Hear(x.c); got != x.want {
			t.Errorf("%s: Hear(%v) after %v = %v", x.name, x.c, x.before, got)
		}
		want := x.before
		if x.want {
			want = x.c
		}
		if got := v.Of(want.Node); got != want {
			t.Errorf("%s: %v is believed", x.name, got)
		}
	}
}

// P2.1: what is heard of one node is believed of no other one.
func TestHearOfEachNode(t *testing.T) {
	v := belief.New()
	var want []api.Claim
	for node := range api.Nodes {
		c := claim(node, node*3, api.HAlive+node%4)
		if !v.Hear(c) {
			t.Errorf("%v is not stored", c)
		}
		want = append(want, c)
		mustBelieve(t, v, want...)
	}
	for node := range api.Nodes {
		for _, inc := range []int{math.MinInt, -1, api.MaxInc + 1, math.MaxInt} {
			if v.Hear(claim(node, inc, api.HLeft)) {
				t.Errorf("node %d, incarnation %d: stored", node, inc)
			}
		}
	}
	mustBelieve(t, v, want...)
}

// P2.1
func TestOf(t *testing.T) {
	v := heard(claim(0, 5, api.HAlive), claim(7, 6, api.HDead))
	for _, x := range []struct {
		node int
		want api.Claim
	}{
		{0, claim(0, 5, api.HAlive)},
		{7, claim(7, 6, api.HDead)},
		{1, claim(1, 0, api.HNone)},
		{6, claim(6, 0, api.HNone)},
		{-1, api.Claim{}},
		{api.Nodes, api.Claim{}},
		{math.MinInt, api.Claim{}},
		{math.MaxInt, api.Claim{}},
	} {
		if got := v.Of(x.node); got != x.want {
			t.Errorf("Of(%d) = %v", x.node, got)
		}
	}
}

// P2.1
func TestAllAndHere(t *testing.T) {
	v := heard(
		claim(7, 4, api.HSuspect),
		claim(5, 4, api.HDead),
		claim(3, 0, api.HLeft),
		claim(0, 0, api.HAlive),
		claim(1, 0, api.HNone),
		claim(4, 9, api.HAlive),
	)
	all := []api.Claim{
		claim(0, 0, api.HAlive), claim(3, 0, api.HLeft), claim(4, 9, api.HAlive),
		claim(5, 4, api.HDead), claim(7, 4, api.HSuspect),
	}
	if got := v.All(); !slices.Equal(got, all) {
		t.Errorf("All() = %v", got)
	}
	if got := v.Here(); !slices.Equal(got, []int{0, 4, 7}) {
		t.Errorf("Here() = %v", got)
	}
	if got := heard(claim(2, 1, api.HDead), claim(6, 1, api.HLeft)).Here(); len(got) != 0 {
		t.Errorf("Here() = %v, of the dead and of those who left", got)
	}
}

// P2.1, R2: what is answered belongs to the caller.
func TestAnswersAreNewMemory(t *testing.T) {
	want := []api.Claim{claim(0, 1, api.HAlive), claim(6, 2, api.HSuspect)}
	v := heard(want...)
	all, here := v.All(), v.Here()
	for i := range all {
		all[i] = claim(4, 9, api.HLeft)
	}
	for i := range here {
		here[i] = 4
	}
	mustBelieve(t, v, want...)
	all = v.All()
	v.Hear(claim(0, 9, api.HDead))
	if !slices.Equal(all, want) {
		t.Errorf("an answer has become %v", all)
	}
}

// P2.1
func TestJoin(t *testing.T) {
	v := heard(claim(0, 1, api.HAlive), claim(1, 5, api.HAlive), claim(2, 3, api.HDead), claim(5, 7, api.HLeft))
	other := []api.Claim{
		claim(0, 1, api.HSuspect), // greater
		claim(1, 4, api.HDead),    // less
		claim(2, 3, api.HDead),    // equal
		claim(3, 0, api.HAlive),   // nothing was said
		claim(5, 9, api.HLeft),    // both left
		claim(7, 0, api.HLeft),    // nothing was said
	}
	w := heard(other...)
	want := []api.Claim{
		claim(0, 1, api.HSuspect), claim(1, 5, api.HAlive), claim(2, 3, api.HDead),
		claim(3, 0, api.HAlive), claim(5, 7, api.HLeft), claim(7, 0, api.HLeft),
	}
	for i, stored := range []int{3, 0} {
		if got := v.Join(w); got != stored {
			t.Errorf("Join %d = %d", i, got)
		}
		mustBelieve(t, v, want...)
		mustBelieve(t, w, other...)
	}
	if got := w.Join(v); got != 1 {
		t.Errorf("the other way: Join = %d", got)
	}
	for name, x := range map[string]*belief.View{"itself": v, "a new one": belief.New(), "nil": nil} {
		if got := v.Join(x); got != 0 {
			t.Errorf("Join of %s = %d", name, got)
		}
		mustBelieve(t, v, want...)
	}
}

// P2.1
func TestJoinOfEveryNode(t *testing.T) {
	w := belief.New()
	for node := range api.Nodes {
		w.Hear(claim(node, node, api.HAlive))
	}
	v := belief.New()
	if got := v.Join(w); got != api.Nodes {
		t.Errorf("Join = %d", got)
	}
	mustBelieve(t, v, w.All()...)
	v.Hear(claim(4, 9, api.HDead))
	if got := w.Of(4); got != claim(4, 4, api.HAlive) {
		t.Errorf("what was joined has become %v", got)
	}
}

// P2.1
func TestCopy(t *testing.T) {
	before := []api.Claim{claim(3, 1, api.HAlive), claim(6, 2, api.HDead)}
	v := heard(before...)
	w := v.Copy()
	mustBelieve(t, w, before...)
	v.Hear(claim(3, 1, api.HSuspect))
	mustBelieve(t, w, before...)
	w.Hear(claim(0, 5, api.HAlive))
	mustBelieve(t, v, claim(3, 1, api.HSuspect), claim(6, 2, api.HDead))
	mustBelieve(t, w, claim(0, 5, api.HAlive), claim(3, 1, api.HAlive), claim(6, 2, api.HDead))
	mustBelieve(t, belief.New().Copy())
}

// P2.1, R3
func TestNilView(t *testing.T) {
	var v *belief.View
	w := heard(claim(3, 1, api.HAlive))
	if v.Hear(claim(3, 1, api.HAlive)) || v.Hear(claim(-1, -1, -1)) {
		t.Error("Hear")
	}
	for _, node := range []int{-1, 0, 3, api.Nodes} {
		if got := v.Of(node); got != (api.Claim{}) {
			t.Errorf("Of(%d) = %v", node, got)
		}
	}
	if len(v.All()) != 0 || len(v.Here()) != 0 {
		t.Error("All, Here")
	}
	if v.Join(w) != 0 || v.Join(nil) != 0 || v.Join(v) != 0 {
		t.Error("Join")
	}
	if v.Copy() != nil {
		t.Error("Copy")
	}
	mustBelieve(t, w, claim(3, 1, api.HAlive))
}

// everyClaim is every valid claim with these incarnations about two nodes,
// with one claim alone that a node left: such claims are equal.
func everyClaim() []api.Claim {
	var l []api.Claim
	for _, node := range []int{0, 6} {
		for _, inc := range []int{0, 1, api.MaxInc} {
			for _, status := range []int{api.HAlive, api.HSuspect, api.HDead} {
				l = append(l, claim(node, inc, status))
			}
		}
		l = append(l, claim(node, 1, api.HLeft))
	}
	return l
}

// P2.2
func TestNeitherOrderNorRepetitionMatters(t *testing.T) {
	r := rand.New(rand.NewSource(1))
	l := everyClaim()
	for range 2000 {
		var once []api.Claim
		var greatest [api.Nodes]api.Claim
		for _, i := range r.Perm(len(l))[:r.Intn(7)] {
			once = append(once, l[i])
			greatest[l[i].Node] = health.Louder(greatest[l[i].Node], l[i])
		}
		var want []api.Claim
		for _, c := range greatest {
			if c.Health != api.HNone {
				want = append(want, c)
			}
		}
		twice := slices.Concat(once, once)
		r.Shuffle(len(twice), func(i, j int) { twice[i], twice[j] = twice[j], twice[i] })
		mustBelieve(t, heard(once...), want...)
		mustBelieve(t, heard(twice...), want...)
	}
}

// P2.2: it does not matter either whether claims are heard or joined.
func TestJoinIsHearing(t *testing.T) {
	r := rand.New(rand.NewSource(2))
	l := everyClaim()
	for range 2000 {
		p := r.Perm(len(l))
		a, b := belief.New(), belief.New()
		both := belief.New()
		for _, i := range p[:3] {
			a.Hear(l[i])
			both.Hear(l[i])
		}
		for _, i := range p[3:6] {
			b.Hear(l[i])
			both.Hear(l[i])
		}
		ab, ba := a.Copy(), b.Copy()
		ab.Join(b)
		ba.Join(a)
		mustBelieve(t, ab, both.All()...)
		mustBelieve(t, ba, both.All()...)
		if ab.Join(ba) != 0 {
			t.Error("what was joined is not settled")
		}
	}
}

// P2.2: claims that a node left are equal, whatever their incarnations, so that
// whichever of them came first, what is believed is equal by Compare.
func TestLeftInAnyOrder(t *testing.T) {
	a := heard(claim(3, 2, api.HLeft), claim(3, 9, api.HLeft))
	b := heard(claim(3, 9, api.HLeft), claim(3, 2, api.HLeft))
	if health.Compare(a.Of(3), b.Of(3)) != 0 || a.Join(b) != 0 || b.Join(a) != 0 {
		t.Errorf("%v and %v", a.Of(3), b.Of(3))
	}
}

// P2.2, T4: what is believed never decreases, and a hearing is stored exactly if it increases.
func TestBeliefRises(t *testing.T) {
	r := rand.New(rand.NewSource(3))
	l := everyClaim()
	for range 300 {
		v := belief.New()
		for range 30 {
			c := l[r.Intn(len(l))]
			before := v.Of(c.Node)
			stored := v.Hear(c)
			after := v.Of(c.Node)
			if stored != (health.Compare(after, before) > 0) || health.Compare(after, c) < 0 || health.Compare(after, before) < 0 {
				t.Errorf("%v, then %v: %v", before, c, after)
			}
		}
	}
}
