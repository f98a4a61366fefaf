package rumor_test

import (
	"cmp"
	"math"
	"math/rand"
	"slices"
	"testing"

	"starling/api"
	"starling/health"
	"starling/rumor"
)

func claim(node, inc, status int) api.Claim {
	return api.Claim{Node: node, Inc: inc, Health: status}
}

// alive is a claim of each of these nodes.
func alive(nodes ...int) []api.Claim {
	var l []api.Claim
	for _, node := range nodes {
		l = append(l, claim(node, node, api.HAlive))
	}
	return l
}

// queue is one that was put these claims in this order.
func queue(t *testing.T, often int, claims ...api.Claim) *rumor.Queue {
	t.Helper()
	q := rumor.New(often)
	for _, c := range claims {
		if !q.Put(c) {
			t.Errorf("%v is not stored", c)
		}
	}
	return q
}

// waits is a claim that a queue must have, and how often it was told.
type waits struct {
	claim api.Claim
	told  int
}

// mustHave holds all that q has against what it must have.
func mustHave(t *testing.T, q *rumor.Queue, want ...waits) {
	t.Helper()
	if got := q.Len(); got != len(want) {
		t.Errorf("Len() = %d, not %d", got, len(want))
	}
	for node := -1; node <= api.Nodes; node++ {
		var w waits
		at := slices.IndexFunc(want, func(w waits) bool { return w.claim.Node == node })
		if at >= 0 {
			w = want[at]
		}
		if c, told, ok := q.Has(node); c != w.claim || told != w.told || ok != (at >= 0) {
			t.Errorf("Has(%d) = %v, %d, %v, not %v, %d", node, c, told, ok, w.claim, w.told)
		}
	}
}

func mustTake(t *testing.T, q *rumor.Queue, n int, want ...api.Claim) {
	t.Helper()
	if got := q.Take(n); !slices.Equal(got, want) {
		t.Errorf("Take(%d) = %v, not %v", n, got, want)
	}
}

// P3.1
func TestNew(t *testing.T) {
	c := claim(3, 1, api.HAlive)
	for _, x := range []struct{ often, want int }{
		{math.MinInt, 1}, {-1, 1}, {0, 1}, {1, 1}, {2, 2}, {3, 3}, {19, 19},
		{20, 20}, {21, 20}, {math.MaxInt, 20},
	} {
		q := rumor.New(x.often)
		mustHave(t, q)
		mustTake(t, q, 1)
		if !q.Put(c) {
			t.Errorf("often %d: not stored", x.often)
		}
		for told := range x.want {
			mustHave(t, q, waits{c, told})
			mustTake(t, q, 1, c)
		}
		mustHave(t, q)
		mustTake(t, q, 1)
	}
}

// P3.1: what is put into one queue is in no other one.
func TestQueuesAreIndependent(t *testing.T) {
	q, r := rumor.New(2), rumor.New(2)
	q.Put(claim(3, 1, api.HAlive))
	mustHave(t, r)
	mustHave(t, rumor.New(2))
	r.Put(claim(3, 2, api.HDead))
	q.Take(1)
	mustHave(t, q, waits{claim(3, 1, api.HAlive), 1})
	mustHave(t, r, waits{claim(3, 2, api.HDead), 0})
}

// P3.1: a queue that New did not make tells each claim once, as one with often 0.
func TestZeroQueue(t *testing.T) {
	var q rumor.Queue
	mustHave(t, &q)
	q.Put(claim(0, 0, api.HAlive))
	mustHave(t, &q, waits{claim(0, 0, api.HAlive), 0})
	mustTake(t, &q, 5, claim(0, 0, api.HAlive))
	mustHave(t, &q)
}

// P3.1: the first claim of a node.
func TestPutOfNewNode(t *testing.T) {
	const top = api.MaxInc
	for _, x := range []struct {
		name string
		c    api.Claim
		want bool
	}{
		{"alive, the first node, the least incarnation", claim(0, 0, api.HAlive), true},
		{"dead, the last node, the greatest incarnation", claim(7, top, api.HDead), true},
		{"suspected", claim(4, 2, api.HSuspect), true},
		{"left", claim(4, 0, api.HLeft), true},
		{"nothing is said", claim(4, 0, api.HNone), false},
		{"nothing is said of the first node", claim(0, 0, api.HNone), false},
		{"nothing is said, with an incarnation", claim(4, 1, api.HNone), false},
		{"too great an incarnation", claim(4, top+1, api.HAlive), false},
		{"left with too great an incarnation", claim(4, top+1, api.HLeft), false},
		{"a negative incarnation", claim(4, -1, api.HAlive), false},
		{"a health after the last", claim(4, 1, api.HLeft+1), false},
		{"a negative health", claim(4, 1, -1), false},
		{"a node after the last", claim(api.Nodes, 1, api.HAlive), false},
		{"a negative node", claim(-1, 1, api.HAlive), false},
		{"the greatest of all numbers", claim(math.MaxInt, math.MaxInt, math.MaxInt), false},
		{"the smallest of all numbers", claim(math.MinInt, math.MinInt, math.MinInt), false},
	} {
		q := rumor.New(3)
		if got := q.Put(x.c); got != x.want {
			t.Errorf("%s: Put(%v) = %v", x.name, x.c, got)
		}
		if x.want {
			mustHave(t, q, waits{x.c, 0})
		} else {
			mustHave(t, q)
		}
	}
}

// P3.1: a claim of a node of which the queue has one, that was told once.
func TestPutOfKnownNode(t *testing.T) {
	const top = api.MaxInc
	for _, x := range []struct {
		name      string
		before, c api.Claim
		want      bool
	}{
		{"alive becomes suspected", claim(3, 1, api.HAlive), claim(3, 1, api.HSuspect), true},
		{"suspected becomes dead", claim(3, 1, api.HSuspect), claim(3, 1, api.HDead), true},
		{"dead becomes alive with a greater incarnation", claim(3, 1, api.HDead), claim(3, 2, api.HAlive), true},
		{"left with a smaller incarnation", claim(3, top, api.HDead), claim(3, 0, api.HLeft), true},
		{"the same", claim(3, 1, api.HAlive), claim(3, 1, api.HAlive), false},
		{"alive with the same incarnation", claim(3, 1, api.HSuspect), claim(3, 1, api.HAlive), false},
		{"dead with a smaller incarnation", claim(3, 1, api.HAlive), claim(3, 0, api.HDead), false},
		{"left twice", claim(3, 4, api.HLeft), claim(3, 4, api.HLeft), false},
		{"left with a greater incarnation", claim(3, 4, api.HLeft), claim(3, 5, api.HLeft), false},
		{"left with a smaller one", claim(3, 4, api.HLeft), claim(3, 3, api.HLeft), false},
		{"alive after it left", claim(3, 4, api.HLeft), claim(3, top, api.HAlive), false},
		{"nothing is said", claim(3, 0, api.HAlive), claim(3, 0, api.HNone), false},
		{"nothing is said, with a greater incarnation", claim(3, 0, api.HAlive), claim(3, 1, api.HNone), false},
		{"too great an incarnation", claim(3, 1, api.HAlive), claim(3, top+1, api.HAlive), false},
		{"left with a negative incarnation", claim(3, 1, api.HAlive), claim(3, -1, api.HLeft), false},
		{"a health after the last", claim(3, 1, api.HAlive), claim(3, 2, api.HLeft+1), false},
	} {
		other := claim(5, 9, api.HDead)
		q := queue(t, 3, x.before, other)
		q.Take(1)
		if got := q.Put(x.c); got != x.want {
			t.Errorf("%s: Put(%v) after %v = %v", x.name, x.c, x.before, got)
		}
		want := waits{x.before, 1}
		if x.want {
			want = waits{x.c, 0}
		}
		mustHave(t, q, want, waits{other, 0})
	}
}

// P3.1: a claim that was told out holds back no other one of its node.
func TestPutAfterTheLastTime(t *testing.T) {
	q := queue(t, 1, claim(3, 9, api.HLeft))
	mustTake(t, q, 1, claim(3, 9, api.HLeft))
	if !q.Put(claim(3, 0, api.HAlive)) {
		t.Error("not stored")
	}
	mustHave(t, q, waits{claim(3, 0, api.HAlive), 0})
}

// P3.1: the example.
func TestTakeOneByOne(t *testing.T) {
	q := queue(t, 3, claim(2, 1, api.HAlive), claim(6, 1, api.HDead))
	mustTake(t, q, 1, claim(2, 1, api.HAlive))
	mustTake(t, q, 1, claim(6, 1, api.HDead))
	mustTake(t, q, 1, claim(2, 1, api.HAlive))
}

// P3.1
func TestTakeByNode(t *testing.T) {
	// The lowest node comes first, whatever is said of it, and whenever.
	l := []api.Claim{
		claim(0, 9, api.HLeft), claim(1, 0, api.HAlive), claim(4, 7, api.HSuspect), claim(7, 3, api.HDead),
	}
	for _, order := range [][]int{{0, 1, 2, 3}, {3, 2, 1, 0}, {2, 0, 3, 1}, {1, 3, 0, 2}} {
		q := rumor.New(3)
		for _, i := range order {
			q.Put(l[i])
		}
		mustTake(t, q, 3, l[:3]...)
		mustTake(t, q, 4, l[3], l[0], l[1], l[2])
	}
}

// P3.1
func TestTakeNumbers(t *testing.T) {
	l := alive(0, 1, 2, 3, 4, 5, 6, 7)
	for _, x := range []struct{ n, want int }{
		{math.MinInt, 0}, {-1, 0}, {0, 0}, {1, 1}, {2, 2}, {7, 7}, {8, 8}, {9, 8}, {math.MaxInt, 8},
	} {
		q := queue(t, 2, l...)
		mustTake(t, q, x.n, l[:x.want]...)
		var want []waits
		for i, c := range l {
			if i < x.want {
				want = append(want, waits{c, 1})
			} else {
				want = append(want, waits{c, 0})
			}
		}
		mustHave(t, q, want...)
	}
}

// P3.1: no claim is taken twice at once, even if it was told least often all the same.
func TestTakeOfFewerThanAsked(t *testing.T) {
	c, d := claim(2, 1, api.HAlive), claim(5, 1, api.HAlive)
	q := queue(t, 9, d)
	mustTake(t, q, 3, d)
	mustTake(t, q, 3, d)
	q.Put(c)
	mustHave(t, q, waits{c, 0}, waits{d, 2})
	mustTake(t, q, 2, c, d)
	mustHave(t, q, waits{c, 1}, waits{d, 3})
}

// P3.1: how often a claim was told goes before its node.
func TestTakeLeastOftenFirst(t *testing.T) {
	a, b, c := claim(1, 1, api.HAlive), claim(4, 1, api.HAlive), claim(6, 1, api.HAlive)
	q := queue(t, 4, a, b)
	mustTake(t, q, 2, a, b)
	mustTake(t, q, 1, a)
	q.Put(c)
	mustTake(t, q, 3, c, b, a)
	mustHave(t, q, waits{a, 3}, waits{b, 2}, waits{c, 1})
	// A greater claim is told as a new one, ahead of those that were told.
	louder := claim(4, 2, api.HAlive)
	q.Put(louder)
	mustTake(t, q, 1, louder)
	mustTake(t, q, 9, louder, c, a)
	mustHave(t, q, waits{louder, 2}, waits{c, 2})
}

// P3.1, R2: what is answered belongs to the caller.
func TestAnswersAreNewMemory(t *testing.T) {
	l := alive(1, 4, 6)
	q := queue(t, 3, l...)
	first := q.Take(3)
	for i := range first {
		first[i] = claim(0, 9, api.HLeft)
	}
	mustHave(t, q, waits{l[0], 1}, waits{l[1], 1}, waits{l[2], 1})
	second := q.Take(2)
	q.Put(claim(1, 9, api.HDead))
	q.Put(claim(0, 9, api.HDead))
	q.Take(9)
	if !slices.Equal(second, l[:2]) {
		t.Errorf("an answer has become %v", second)
	}
}

// P3.1: Len and Has change nothing.
func TestAskingChangesNothing(t *testing.T) {
	l := alive(0, 7)
	q := queue(t, 2, l...)
	for range 5 {
		mustHave(t, q, waits{l[0], 0}, waits{l[1], 0})
	}
	for _, node := range []int{math.MinInt, 3, api.Nodes, math.MaxInt} {
		if c, told, ok := q.Has(node); c != (api.Claim{}) || told != 0 || ok {
			t.Errorf("Has(%d) = %v, %d, %v", node, c, told, ok)
		}
	}
	mustTake(t, q, 2, l...)
}

// P3.1, R3
func TestNilQueue(t *testing.T) {
	var q *rumor.Queue
	if q.Put(claim(3, 1, api.HAlive)) || q.Put(claim(-1, -1, -1)) {
		t.Error("Put")
	}
	for _, n := range []int{math.MinInt, 0, 1, math.MaxInt} {
		mustTake(t, q, n)
	}
	mustHave(t, q)
}

// plainQueue does what the chapter says by going through all claims each time.
type plainQueue struct {
	often int
	l     []waits
}

func (p *plainQueue) put(c api.Claim) bool {
	at := slices.IndexFunc(p.l, func(w waits) bool { return w.claim.Node == c.Node })
	if !health.May(c) || c.Health == api.HNone || at >= 0 && health.Compare(p.l[at].claim, c) >= 0 {
		return false
	}
	if at >= 0 {
		p.l = slices.Delete(p.l, at, at+1)
	}
	p.l = append(p.l, waits{c, 0})
	return true
}

func (p *plainQueue) take(n int) []api.Claim {
	slices.SortFunc(p.l, func(a, b waits) int {
		return cmp.Or(a.told-b.told, a.claim.Node-b.claim.Node)
	})
	var out []api.Claim
	for i := range min(max(n, 0), len(p.l)) {
		out = append(out, p.l[i].claim)
		p.l[i].told++
	}
	p.l = slices.DeleteFunc(p.l, func(w waits) bool { return w.told == p.often })
	return out
}

// P3.1
func TestAgainstPlainQueue(t *testing.T) {
	r := rand.New(rand.NewSource(1))
	for range 300 {
		often := 1 + r.Intn(5)
		q, p := rumor.New(often), &plainQueue{often: often}
		for range 60 {
			if r.Intn(3) > 0 {
				c := claim(r.Intn(10)-1, r.Intn(6)-1, r.Intn(6))
				if got, want := q.Put(c), p.put(c); got != want {
					t.Fatalf("Put(%v) = %v", c, got)
				}
			} else {
				n := r.Intn(6) - 1
				mustTake(t, q, n, p.take(n)...)
			}
			mustHave(t, q, p.l...)
			if t.Failed() {
				return
			}
		}
	}
}

// P3.2: each claim is told often times, unless a greater one replaces it: then
// it is not told any more.
func TestEachClaimIsToldOften(t *testing.T) {
	r := rand.New(rand.NewSource(2))
	for range 300 {
		often := 1 + r.Intn(6)
		q := rumor.New(often)
		told := map[api.Claim]int{}
		var stored []api.Claim
		replaced := map[api.Claim]int{} // how often it was told by then
		note := func(l []api.Claim) {
			for _, c := range l {
				told[c]++
			}
		}
		for inc := range 30 {
			c := claim(r.Intn(api.Nodes), inc, api.HAlive+r.Intn(3))
			if old, _, ok := q.Has(c.Node); ok {
				replaced[old] = told[old]
			}
			if !q.Put(c) {
				t.Fatalf("%v is not stored", c)
			}
			stored = append(stored, c)
			note(q.Take(r.Intn(5)))
		}
		for q.Len() > 0 {
			note(q.Take(1 + r.Intn(3)))
		}
		for _, c := range stored {
			want := often
			if n, ok := replaced[c]; ok {
				want = n
			}
			if told[c] != want || want > often {
				t.Errorf("often %d: %v was told %d times, not %d", often, c, told[c], want)
			}
		}
	}
}
