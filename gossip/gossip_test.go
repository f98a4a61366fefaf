package gossip_test

import (
	"math"
	"math/rand"
	"slices"
	"sync"
	"testing"

	"starling/api"
	"starling/gossip"
	"starling/probe"
	"starling/ring"
)

const top = 1000000 // the last version, and the last epoch

// notNodes is numbers that are not nodes, some of which would be one in fewer
// bits.
func notNodes() []int {
	return []int{math.MinInt, -1 << 32, -256, -8, -1, 8, 9, 15, 16, 255, 256, 259, 1 << 32, 1<<32 + 3, math.MaxInt}
}

// targets are those of a plan by which the parts go round all nodes, from node on.
func targets(node int) []int {
	var l []int
	for part := range 16 {
		l = append(l, (node+part)%8)
	}
	return l
}

// some is a valid ring that says something of every kind.
func some() api.Ring {
	r := api.Ring{Status: [8]int{2, 2, 1, 3, 4, 0, 0, 2}, Plan: api.Plan{Version: 3, By: 1, Targets: targets(2)}}
	for part := range 16 {
		r.Parts[part] = api.Entry{Epoch: part + 1, Owner: part % 8}
	}
	return r
}

// with is r, with something changed.
func with(r api.Ring, change func(r *api.Ring)) api.Ring {
	r.Plan.Targets = slices.Clone(r.Plan.Targets)
	change(&r)
	return r
}

// status is the ring in which node has this status, and which says nothing else.
func status(node, s int) api.Ring {
	return with(api.Ring{}, func(r *api.Ring) { r.Status[node] = s })
}

// greater is rings that say more than some by one thing each.
func greater() []api.Ring {
	var l []api.Ring
	more := func(change func(r *api.Ring)) { l = append(l, with(some(), change)) }
	for node := range 8 {
		if some().Status[node] < 4 {
			more(func(r *api.Ring) { r.Status[node]++ })
		}
	}
	for part := range 16 {
		more(func(r *api.Ring) { r.Parts[part].Epoch++ })
	}
	more(func(r *api.Ring) { r.Parts[15].Epoch = top })
	more(func(r *api.Ring) { r.Parts[0].Owner = 7 })
	more(func(r *api.Ring) { r.Plan.Version++ })
	more(func(r *api.Ring) { r.Plan.Version = top })
	more(func(r *api.Ring) { r.Plan.By++ })
	more(func(r *api.Ring) { r.Plan.Targets[15] = 7 })
	return l
}

// odd is rings that are not valid.
func odd() []api.Ring {
	var l []api.Ring
	wrong := func(change func(r *api.Ring)) { l = append(l, with(some(), change)) }
	for _, n := range notNodes() {
		wrong(func(r *api.Ring) { r.Status[0] = n })
		wrong(func(r *api.Ring) { r.Parts[15] = api.Entry{Epoch: 1, Owner: n} })
		wrong(func(r *api.Ring) { r.Plan.By = n })
		wrong(func(r *api.Ring) { r.Plan.Targets[15] = n })
	}
	for _, n := range []int{math.MinInt, -1, top + 1, math.MaxInt} {
		wrong(func(r *api.Ring) { r.Parts[3].Epoch = n })
		wrong(func(r *api.Ring) { r.Plan.Version = n })
	}
	wrong(func(r *api.Ring) { r.Status[7] = 5 })
	wrong(func(r *api.Ring) { r.Plan.Targets = r.Plan.Targets[:15] })
	wrong(func(r *api.Ring) { r.Plan.Targets = append(r.Plan.Targets, 0) })
	wrong(func(r *api.Ring) { r.Plan.Targets = nil })
	wrong(func(r *api.Ring) { r.Plan.Version = 0 })
	return l
}

// isEqual holds two rings against each other, field by field.
func isEqual(a, b api.Ring) bool {
	return a.Status == b.Status && a.Parts == b.Parts && a.Plan.Version == b.Plan.Version &&
		a.Plan.By == b.Plan.By && slices.Equal(a.Plan.Targets, b.Plan.Targets)
}

// teller is the one of node 2.
func teller(t *testing.T) *gossip.Teller {
	t.Helper()
	g := gossip.New(2)
	if g == nil {
		t.Fatal("New(2) is nil")
	}
	return g
}

func mustKnow(t *testing.T, g *gossip.Teller, node int, want api.Ring) {
	t.Helper()
	if got, ok := g.Knows(node); !ok || !isEqual(got, want) {
		t.Errorf("Knows(%d) = %v, %v, not %v", node, got, ok, want)
	}
}

func mustKnowNothing(t *testing.T, g *gossip.Teller, nodes ...int) {
	t.Helper()
	for _, node := range nodes {
		if got, ok := g.Knows(node); ok || !isEqual(got, api.Ring{}) {
			t.Errorf("Knows(%d) = %v, %v, though nothing was heard of it", node, got, ok)
		}
	}
}

func mustTurn(t *testing.T, g *gossip.Teller, r api.Ring, peers []int, draw uint64, want int) {
	t.Helper()
	if got := g.Turn(r, peers, draw); got != want {
		t.Errorf("Turn(%v, %v, %d) = %d, not %d", r, peers, draw, got, want)
	}
}

// mustTurnAlone asks for the only peer, so that it is its turn each time.
func mustTurnAlone(t *testing.T, g *gossip.Teller, r api.Ring, peer, want int) {
	t.Helper()
	mustTurn(t, g, r, []int{peer}, 5, want)
}

// P16.1
func TestNew(t *testing.T) {
	for self := range 8 {
		g := gossip.New(self)
		if g == nil {
			t.Fatalf("New(%d) is nil", self)
		}
		mustKnowNothing(t, g, 0, 1, 2, 3, 4, 5, 6, 7)
		mustKnowNothing(t, g, notNodes()...)
	}
	for _, n := range notNodes() {
		if gossip.New(n) != nil {
			t.Errorf("New(%d) is not nil", n)
		}
	}
}

// P16.1: what is heard is joined, in whatever order and however often it comes.
func TestHeard(t *testing.T) {
	g := teller(t)
	g.Heard(1, status(3, 1))
	mustKnow(t, g, 1, status(3, 1))
	g.Heard(1, status(3, 3))
	mustKnow(t, g, 1, status(3, 3))
	g.Heard(1, status(3, 2))
	g.Heard(1, api.Ring{})
	mustKnow(t, g, 1, status(3, 3))
	g.Heard(1, status(5, 4))
	mustKnow(t, g, 1, api.Ring{Status: [8]int{3: 3, 5: 4}})
	g.Heard(1, some())
	both := with(some(), func(r *api.Ring) { r.Status[5] = 4 })
	mustKnow(t, g, 1, both)
	for range 3 {
		g.Heard(1, some())
		g.Heard(1, both)
	}
	mustKnow(t, g, 1, both)
	mustKnowNothing(t, g, 0, 2, 3, 4, 5, 6, 7)
}

// P16.1: a plan and entries that are greater replace others, which are not lost
// where they are greater still.
func TestHeardPlansAndEntries(t *testing.T) {
	for i, r := range greater() {
		other := greater()[(i+1)%len(greater())]
		g := teller(t)
		g.Heard(4, some())
		g.Heard(4, r)
		mustKnow(t, g, 4, r)
		g.Heard(4, some())
		mustKnow(t, g, 4, r)
		g.Heard(4, other)
		mustKnow(t, g, 4, ring.Join(other, r))
	}
}

// P16.1: of each node by itself.
func TestHeardOfEachNode(t *testing.T) {
	for self := range 8 {
		g := gossip.New(self)
		for from := range 8 {
			g.Heard(from, status(from, 1+from%4))
		}
		mustKnowNothing(t, g, self)
		for node := range 8 {
			if node != self {
				mustKnow(t, g, node, status(node, 1+node%4))
			}
		}
	}
}

// P16.1: also the ring that says nothing is heard.
func TestHeardOfNothing(t *testing.T) {
	g := teller(t)
	g.Heard(6, api.Ring{})
	mustKnow(t, g, 6, api.Ring{})
	mustTurnAlone(t, g, api.Ring{}, 6, -1)
	mustTurnAlone(t, g, status(0, 1), 6, 6)
	mustKnowNothing(t, g, 0, 1, 2, 3, 4, 5, 7)
}

// P16.1: what does not come from another node is nothing.
func TestHeardFromWhoIsNoOtherNode(t *testing.T) {
	g := teller(t)
	g.Heard(2, some())
	for _, n := range notNodes() {
		g.Heard(n, some())
		mustKnowNothing(t, g, n)
	}
	mustKnowNothing(t, g, 0, 1, 2, 3, 4, 5, 6, 7)
	for node := range 8 {
		want := node
		if node == 2 {
			want = -1
		}
		mustTurnAlone(t, g, api.Ring{}, node, want)
	}
}

// P16.1: a ring that is not valid is nothing, and takes nothing away.
func TestHeardRingsThatAreNotValid(t *testing.T) {
	g := teller(t)
	g.Heard(5, status(1, 3))
	for _, r := range odd() {
		g.Heard(5, r)
		mustKnow(t, g, 5, status(1, 3))
		g.Heard(7, r)
		mustKnowNothing(t, g, 7)
		mustTurnAlone(t, g, api.Ring{}, 7, 7)
	}
	g.Heard(5, some())
	mustKnow(t, g, 5, with(some(), func(r *api.Ring) { r.Status[1] = 3 }))
}

// P16.2: the example, for any ring: of whom nothing was heard is told.
func TestTurnWithoutAnythingHeard(t *testing.T) {
	rings := slices.Concat(greater(), odd(), []api.Ring{{}, status(2, 1), some()})
	for _, r := range rings {
		g := gossip.New(0)
		for range 3 {
			mustTurnAlone(t, g, r, 2, 2)
		}
	}
}

// P16.2: each thing that a node does not know is told, until it is known.
func TestTurnOfWhatIsNotKnown(t *testing.T) {
	g := teller(t)
	g.Heard(6, some())
	g.Heard(7, status(0, 2))
	for _, r := range greater() {
		mustTurnAlone(t, g, some(), 6, -1)
		mustTurnAlone(t, g, r, 6, 6)
		mustTurnAlone(t, g, r, 6, 6) // to be told is not to know
		mustTurnAlone(t, g, r, 7, 7)
		h := teller(t)
		h.Heard(6, r)
		mustTurnAlone(t, h, r, 6, -1)
		mustTurnAlone(t, h, some(), 6, -1)
	}
	mustKnow(t, g, 6, some())
	mustKnow(t, g, 7, status(0, 2))
}

// P16.2: neither of two rings is below the other.
func TestTurnOfRingsBesideOneAnother(t *testing.T) {
	g := teller(t)
	a, b := status(0, 3), status(1, 3)
	g.Heard(6, a)
	mustTurnAlone(t, g, b, 6, 6)
	mustTurnAlone(t, g, ring.Join(a, b), 6, 6)
	g.Heard(6, b)
	mustTurnAlone(t, g, a, 6, -1)
	mustTurnAlone(t, g, b, 6, -1)
	mustTurnAlone(t, g, ring.Join(a, b), 6, -1)
}

// P16.2: nobody is left when the peers are not other nodes.
func TestTurnWithoutPeers(t *testing.T) {
	g := teller(t)
	for _, peers := range [][]int{nil, {}, {2}, {2, 2, 8, -1}, notNodes(), slices.Repeat([]int{2}, 1000)} {
		for range 3 {
			mustTurn(t, g, some(), peers, 7, -1)
		}
	}
	mustTurn(t, g, some(), append(notNodes(), 2, 5, 2, 5), 7, 5)
}

// P16.2: it is the turn of one node after the other, also of those that know
// everything already, which are not told.
func TestTurnsOfThoseWhoKnow(t *testing.T) {
	g, o := teller(t), probe.New(2)
	peers := []int{0, 1, 2, 3, 4}
	g.Heard(1, some())
	g.Heard(3, greater()[0])
	g.Heard(4, status(0, 1))
	nobody := 0
	for i := range 40 {
		want := o.Next(peers, uint64(i))
		if want == 1 || want == 3 {
			want = -1
			nobody++
		}
		mustTurn(t, g, some(), peers, uint64(i), want)
	}
	if nobody != 20 {
		t.Errorf("%d of 40 turns tell nobody, not 20", nobody)
	}
}

// P16.2: what is heard does not change whose turn it is.
func TestHeardKeepsTheOrder(t *testing.T) {
	g, o := teller(t), probe.New(2)
	peers := []int{0, 1, 3, 4, 5, 6, 7}
	for i := range 70 {
		g.Heard(i%9, status(i%8, 1+i%3))
		g.Knows(i % 8)
		mustTurn(t, g, some(), peers, uint64(i)*977, o.Next(peers, uint64(i)*977))
	}
}

// P16.2: worked out apart from the program, with orders of chapter 4.
func TestTurnOrder(t *testing.T) {
	g := gossip.New(0)
	mustTurn(t, g, some(), []int{1, 2, 3}, 4, 2)
	g.Heard(1, some())
	mustTurn(t, g, some(), []int{1, 2, 3, 5}, 9, -1) // it is the turn of 1
	mustTurn(t, g, some(), []int{1, 2, 5}, 10, 5)    // 3 has gone, and a round begins
	mustTurn(t, g, some(), nil, 9, -1)
}

// P16.3: in each round each peer that knows less is told once, and no other.
func TestRounds(t *testing.T) {
	r := rand.New(rand.NewSource(1))
	for range 300 {
		self := r.Intn(8)
		g := gossip.New(self)
		var peers, knowLess []int
		for node := range 8 {
			known := drawn(r)
			if r.Intn(3) > 0 {
				g.Heard(node, known)
			} else {
				known = api.Ring{}
			}
			if node == self || r.Intn(4) == 0 {
				continue
			}
			peers = append(peers, node)
			if !ring.Below(some(), known) {
				knowLess = append(knowLess, node)
			}
		}
		for range 3 {
			mustTellInARound(t, g, peers, knowLess, r)
		}
	}
}

// mustTellInARound goes through one round, and holds those who are told against
// those who know less.
func mustTellInARound(t *testing.T, g *gossip.Teller, peers, knowLess []int, r *rand.Rand) {
	t.Helper()
	var told []int
	for range peers {
		if node := g.Turn(some(), peers, r.Uint64()); node != -1 {
			told = append(told, node)
		}
	}
	slices.Sort(told)
	if !slices.Equal(told, knowLess) {
		t.Errorf("told are %v, but %v know less", told, knowLess)
	}
}

// drawn is a valid ring, which often is not far from some.
func drawn(r *rand.Rand) api.Ring {
	x := some()
	for range r.Intn(3) {
		switch r.Intn(4) {
		case 0:
			x.Status[r.Intn(8)] = r.Intn(5)
		case 1:
			x.Parts[r.Intn(16)] = api.Entry{Epoch: 1 + r.Intn(20), Owner: r.Intn(8)}
		case 2:
			x.Plan = api.Plan{Version: 2 + r.Intn(3), By: r.Intn(3), Targets: targets(r.Intn(8))}
		case 3:
			x.Plan = api.Plan{}
		}
	}
	return x
}

// plainTeller does what the chapter says, one sentence after the other.
type plainTeller struct {
	self  int
	heard map[int][]api.Ring
	order *probe.Order
}

func (p *plainTeller) knows(node int) (api.Ring, bool) {
	all := api.Ring{}
	for _, r := range p.heard[node] {
		all = ring.Join(r, all)
	}
	return all, len(p.heard[node]) > 0
}

func (p *plainTeller) hear(from int, r api.Ring) {
	if from >= 0 && from <= 7 && from != p.self && ring.May(r) {
		p.heard[from] = append(p.heard[from], r)
	}
}

func (p *plainTeller) turn(r api.Ring, peers []int, draw uint64) int {
	node := p.order.Next(peers, draw)
	if all, ok := p.knows(node); ok && isEqual(ring.Join(r, all), all) {
		return -1
	}
	return node
}

// P16.1, P16.2
func TestAgainstAPlainOne(t *testing.T) {
	r := rand.New(rand.NewSource(2))
	for range 60 {
		self := r.Intn(8)
		g := gossip.New(self)
		p := &plainTeller{self: self, heard: map[int][]api.Ring{}, order: probe.New(self)}
		var peers []int
		for range 200 {
			x := drawn(r)
			if r.Intn(5) == 0 {
				x = odd()[r.Intn(len(odd()))]
			}
			if r.Intn(3) == 0 {
				from := r.Intn(10) - 1
				g.Heard(from, x)
				p.hear(from, x)
			}
			if r.Intn(8) == 0 {
				peers = r.Perm(10)[:r.Intn(10)]
			}
			draw := r.Uint64()
			mustTurn(t, g, x, peers, draw, p.turn(x, peers, draw))
			node := r.Intn(10) - 1
			if all, ok := p.knows(node); ok {
				mustKnow(t, g, node, all)
			} else {
				mustKnowNothing(t, g, node)
			}
		}
	}
}

// P16.1, P16.2, R3: of a nil teller, and of one that New did not make.
func TestNoTeller(t *testing.T) {
	var none *gossip.Teller
	for _, r := range []api.Ring{{}, some(), odd()[0]} {
		none.Heard(1, r)
		none.Heard(-1, r)
		mustTurn(t, none, r, []int{1, 2, 3}, 7, -1)
		mustTurn(t, none, r, nil, 0, -1)
		mustTurn(t, new(gossip.Teller), r, []int{1, 2, 3}, 7, -1)
	}
	mustKnowNothing(t, none, 0, 1, 2, 3, 4, 5, 6, 7)
	mustKnowNothing(t, none, notNodes()...)
	mustKnowNothing(t, new(gossip.Teller), 0, 1, 2, 3, 4, 5, 6, 7)
}

// R2: a teller keeps nothing of its arguments, and hands out nothing of its own.
func TestMemory(t *testing.T) {
	g := teller(t)
	for range 2 { // once where nothing was heard, once where this was heard already
		r := some()
		g.Heard(1, r)
		spoil(r.Plan.Targets)
		mustKnow(t, g, 1, some())
	}
	g.Heard(1, status(0, 1)) // what is kept is joined with a ring without a plan
	a, _ := g.Knows(1)
	b, _ := g.Knows(1)
	spoil(a.Plan.Targets)
	if !isEqual(b, some()) {
		t.Error("two answers share their memory")
	}
	mustKnow(t, g, 1, some())
	mustTurnAlone(t, g, some(), 1, -1)
}

// spoil overwrites l, and what lies beyond its length.
func spoil(l []int) {
	l = l[:cap(l)]
	for i := range l {
		l[i] = -7
	}
}

// R2: arguments stay as they are, and what lies beyond their length is not read.
func TestArgumentsStay(t *testing.T) {
	roomy := some()
	all := append(slices.Clone(roomy.Plan.Targets), 5, -5, 99)
	roomy.Plan.Targets = all[:16]
	long := []int{4, 3, 2, 1, 0, 7}
	peers := long[:3]
	g, o := teller(t), probe.New(2)
	g.Heard(3, roomy)
	for i := range 30 {
		want := o.Next([]int{3, 4}, uint64(i))
		if want == 3 {
			want = -1
		}
		mustTurn(t, g, roomy, peers, uint64(i), want)
	}
	mustKnow(t, g, 3, some())
	if !slices.Equal(all, append(targets(2), 5, -5, 99)) || !slices.Equal(long, []int{4, 3, 2, 1, 0, 7}) {
		t.Errorf("the arguments have become %v and %v", all, long)
	}
	peers[0], peers[1] = 0, 1
	mustTurn(t, g, some(), []int{4}, 9, 4)
}

// P16.2: peers and targets without end.
func TestManyPeers(t *testing.T) {
	g := teller(t)
	r := some()
	r.Plan.Targets = slices.Repeat([]int{3}, 100000)
	g.Heard(5, r)
	mustKnowNothing(t, g, 5)
	mustTurn(t, g, r, slices.Repeat([]int{2, -1, 5, 8}, 100000), 3, 5)
	g.Heard(5, some())
	mustTurnAlone(t, g, r, 5, 5)
}

// R6: an answer depends on what this teller heard alone, whatever others do.
func TestTellersAreApart(t *testing.T) {
	run := func() []int {
		r := rand.New(rand.NewSource(3))
		g := gossip.New(2)
		var turns []int
		for range 300 {
			g.Heard(r.Intn(8), drawn(r))
			turns = append(turns, g.Turn(drawn(r), r.Perm(8)[:5], r.Uint64()))
		}
		return turns
	}
	want := run()
	var all sync.WaitGroup
	for range 4 {
		all.Go(func() {
			if got := run(); !slices.Equal(got, want) {
				t.Errorf("the turns are %v, not %v", got, want)
			}
		})
	}
	all.Wait()
}
