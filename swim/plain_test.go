package swim_test

import (
	"cmp"
	"math/rand"
	"slices"
	"testing"

	"starling/api"
	"starling/health"
	"starling/probe"
	"starling/swim"
)

// plain does what the chapter says, one sentence after the other.
type plain struct {
	self, inc, now, seq int
	asked               int // -1: no node
	over, left          bool
	view                map[int]api.Claim
	queue               []plainRumor
	rest                []int
	moments             map[int]int
}

type plainRumor struct {
	c    api.Claim
	told int
}

func newPlain(self, inc int) *plain {
	return &plain{
		self: self, inc: inc, asked: -1,
		view: map[int]api.Claim{self: alive(self, inc)}, moments: map[int]int{},
	}
}

func (p *plain) of(node int) api.Claim {
	if c, ok := p.view[node]; ok {
		return c
	}
	return api.Claim{Node: node}
}

func (p *plain) believe(c api.Claim) bool {
	if c.Health == api.HNone || health.Compare(c, p.of(c.Node)) <= 0 {
		return false
	}
	p.view[c.Node] = c
	return true
}

func (p *plain) put(c api.Claim) {
	for i, r := range p.queue {
		if r.c.Node == c.Node {
			if health.Compare(c, r.c) > 0 {
				p.queue[i] = plainRumor{c: c}
			}
			return
		}
	}
	p.queue = append(p.queue, plainRumor{c: c})
}

func (p *plain) take(n int) []api.Claim {
	slices.SortFunc(p.queue, func(a, b plainRumor) int {
		return cmp.Or(cmp.Compare(a.told, b.told), cmp.Compare(a.c.Node, b.c.Node))
	})
	var l []api.Claim
	for i := range min(n, len(p.queue)) {
		l = append(l, p.queue[i].c)
		p.queue[i].told++
	}
	p.queue = slices.DeleteFunc(p.queue, func(r plainRumor) bool { return r.told == 3 })
	return l
}

func (p *plain) hear(c api.Claim) api.Errno {
	if c.Node == p.self {
		accused := c.Health == api.HSuspect || c.Health == api.HDead
		switch {
		case !accused || c.Inc < p.inc:
		case c.Inc == api.MaxInc:
			p.over = true
			return api.ErrOver
		default:
			p.inc = c.Inc + 1
			p.believe(alive(p.self, p.inc))
			p.put(alive(p.self, p.inc))
		}
		return api.OK
	}
	if p.believe(c) {
		p.put(c)
		delete(p.moments, 100+c.Node)
		if c.Health == api.HSuspect {
			p.moments[100+c.Node] = p.now + 6
		}
	}
	return api.OK
}

func (p *plain) send(m api.Msg) []api.Msg {
	if p.left {
		return nil
	}
	m.From = p.self
	m.Claims = []api.Claim{p.of(p.self)}
	if c := p.of(m.To); c.Health == api.HSuspect || c.Health == api.HDead {
		m.Claims = append(m.Claims, c)
	}
	m.Claims = append(m.Claims, p.take(2)...)
	return []api.Msg{m}
}

// reduced is the peers other than these nodes.
func reduced(peers []int, but ...int) []int {
	var l []int
	for node := range 8 {
		if slices.Contains(peers, node) && !slices.Contains(but, node) {
			l = append(l, node)
		}
	}
	return l
}

func (p *plain) next(peers []int, draw uint64) int {
	peers = reduced(peers, p.self)
	if len(peers) == 0 {
		return -1
	}
	p.rest = slices.DeleteFunc(p.rest, func(node int) bool { return !slices.Contains(peers, node) })
	if len(p.rest) == 0 {
		p.rest = probe.Shuffle(peers, draw)
	}
	node := p.rest[0]
	p.rest = p.rest[1:]
	return node
}

func (p *plain) due() []int {
	var ids []int
	for id, at := range p.moments {
		if at <= p.now {
			ids = append(ids, id)
		}
	}
	slices.SortFunc(ids, func(a, b int) int {
		return cmp.Or(cmp.Compare(p.moments[a], p.moments[b]), cmp.Compare(a, b))
	})
	for _, id := range ids {
		delete(p.moments, id)
	}
	return ids
}

func (p *plain) tick(peers []int, draw uint64) []api.Msg {
	p.now++
	if p.left {
		return nil
	}
	var sent []api.Msg
	for _, id := range p.due() {
		switch {
		case id >= 100:
			if c := p.of(id - 100); c.Health == api.HSuspect {
				p.hear(dead(c.Node, c.Inc))
			}
		case id == 1:
			for _, to := range probe.Some(reduced(peers, p.self, p.asked), 2, draw) {
				sent = append(sent, p.send(api.Msg{Kind: api.MPingReq, To: to, Seq: p.seq, About: p.asked})...)
			}
		case id == 2:
			if c := p.of(p.asked); c.Health == api.HAlive {
				p.hear(suspect(c.Node, c.Inc))
			}
			p.asked = -1
		}
	}
	if p.asked != -1 {
		return sent
	}
	p.asked = p.next(peers, draw)
	if p.asked == -1 {
		return sent
	}
	p.seq++
	p.moments[1], p.moments[2] = p.now+2, p.now+4
	return append(sent, p.send(api.Msg{Kind: api.MPing, To: p.asked, Seq: p.seq, For: p.self})...)
}

func (p *plain) handle(m api.Msg) []api.Msg {
	isNode := func(n int) bool { return 0 <= n && n < 8 }
	if m.To != p.self || !isNode(m.From) || m.From == p.self {
		return nil
	}
	valid := slices.DeleteFunc(slices.Clone(m.Claims), func(c api.Claim) bool { return !health.May(c) })
	for _, c := range valid[:min(4, len(valid))] {
		p.hear(c)
	}
	if c := p.of(m.From); c.Health != api.HLeft {
		p.hear(alive(m.From, c.Inc))
	}
	switch {
	case m.Kind == api.MPing:
		return p.send(ack(0, m.From, m.Seq, m.For))
	case m.Kind == api.MAck && m.For == p.self:
		if m.Seq == p.seq && p.asked != -1 {
			delete(p.moments, 1)
			delete(p.moments, 2)
			p.asked = -1
		}
	case m.Kind == api.MAck && isNode(m.For):
		return p.send(ack(0, m.For, m.Seq, m.For))
	case m.Kind == api.MPingReq && isNode(m.About) && m.About != p.self:
		return p.send(ping(0, m.About, m.Seq, m.From))
	}
	return nil
}

func (p *plain) leave() api.Claim {
	c := left(p.self, p.inc)
	if !p.left {
		p.left = true
		p.believe(c)
		p.put(c)
	}
	return c
}

func (p *plain) all() []api.Claim {
	var l []api.Claim
	for node := range 8 {
		if c, ok := p.view[node]; ok {
			l = append(l, c)
		}
	}
	return l
}

// pair is a detector, and what it must be.
type pair struct {
	d *swim.Detector
	p *plain
}

// mustAgree holds all that can be asked of d against p.
func (x pair) mustAgree(t *testing.T) {
	t.Helper()
	if got, want := x.d.All(), x.p.all(); !slices.Equal(got, want) {
		t.Errorf("All() = %v, not %v", got, want)
	}
	if d, p := x.d, x.p; d.Inc() != p.inc || d.Now() != p.now || d.Over() != p.over {
		t.Errorf("%d, %d, %v, not %d, %d, %v", d.Inc(), d.Now(), d.Over(), p.inc, p.now, p.over)
	}
}

// mayClaim is a claim, valid most often, near the incarnations that are believed.
func mayClaim(r *rand.Rand, x pair) api.Claim {
	c := claim(r.Intn(8), 0, 1+r.Intn(4))
	c.Inc = max(0, x.p.of(c.Node).Inc+r.Intn(4)-1)
	if c.Health == api.HLeft && r.Intn(20) > 0 {
		c.Health = api.HSuspect
	}
	switch r.Intn(200) {
	case 0:
		c.Inc = api.MaxInc
	case 1:
		c.Node = 8
	case 2:
		c.Inc = -1
	case 3, 4, 5:
		c = api.Claim{Node: r.Intn(8)}
	}
	return c
}

func mayMsg(r *rand.Rand, x pair) api.Msg {
	m := api.Msg{Kind: 1 + r.Intn(4), From: r.Intn(8), To: x.p.self, Seq: x.p.seq - r.Intn(2)}
	m.For, m.About = r.Intn(10)-1, r.Intn(10)-1
	if r.Intn(3) == 0 {
		m.For = x.p.self
	}
	if r.Intn(30) == 0 {
		m.To = r.Intn(8)
	}
	for range r.Intn(7) {
		m.Claims = append(m.Claims, mayClaim(r, x))
	}
	return m
}

// step makes one call of both.
func (x pair) step(t *testing.T, r *rand.Rand) {
	t.Helper()
	switch n := r.Intn(400); {
	case n == 0:
		if got, want := x.d.Leave(), x.p.leave(); got != want {
			t.Errorf("Leave() = %v, not %v", got, want)
		}
	case n < 60:
		m := mayMsg(r, x)
		mustSend(t, x.d.Handle(m), x.p.handle(m)...)
	case n < 80:
		c := mayClaim(r, x)
		if want := api.ErrArg; !health.May(c) || c.Health == api.HNone {
			mustHear(t, x.d, c, want)
		} else {
			mustHear(t, x.d, c, x.p.hear(c))
		}
	default:
		draw := r.Uint64()
		peers := r.Perm(10)[:r.Intn(10)]
		for i := range peers {
			peers[i]--
		}
		mustSend(t, x.d.Tick(peers, draw), x.p.tick(peers, draw)...)
	}
}

// P6.1 to P6.4: calls of all kinds, mixed.
func TestAgainstPlain(t *testing.T) {
	r := rand.New(rand.NewSource(1))
	for range 400 {
		self, inc := r.Intn(8), r.Intn(3)
		if r.Intn(10) == 0 {
			inc = api.MaxInc - r.Intn(3)
		}
		x := pair{swim.New(self, inc), newPlain(self, inc)}
		for range 400 {
			before := x.d.All()
			x.step(t, r)
			x.mustAgree(t)
			mustNotSink(t, x.d, before)
			if t.Failed() {
				return
			}
		}
	}
}

// mustNotSink is P6.5: nothing that was believed has become less.
func mustNotSink(t *testing.T, d *swim.Detector, before []api.Claim) {
	t.Helper()
	for _, c := range before {
		if health.Compare(d.Of(c.Node), c) < 0 {
			t.Errorf("believed is %s, after %s", health.Text(d.Of(c.Node)), health.Text(c))
		}
	}
}

// crowd is detectors, and the messages between them.
type crowd struct {
	up     []*swim.Detector // nil: it is down
	way    []api.Msg
	arrive func(*swim.Detector, api.Msg) []api.Msg
}

func newCrowd(n int) *crowd {
	k := &crowd{arrive: (*swim.Detector).Handle}
	for node := range n {
		k.up = append(k.up, swim.New(node, 0))
	}
	return k
}

// round is a tick of each; then all that is on its way arrives, until nothing is.
func (k *crowd) round(r *rand.Rand) {
	peers := make([]int, len(k.up))
	for node := range k.up {
		peers[node] = node
	}
	for _, d := range k.up {
		k.way = append(k.way, d.Tick(peers, r.Uint64())...)
	}
	for len(k.way) > 0 {
		m := k.way[0]
		k.way = k.way[1:]
		if d := k.up[m.To]; d != nil {
			k.way = append(k.way, k.arrive(d, m)...)
		}
	}
}

// P6.2, P6.3: among nodes that all answer, nobody is ever suspected.
func TestCrowdThatAnswers(t *testing.T) {
	r := rand.New(rand.NewSource(2))
	for n := 2; n <= api.Nodes; n++ {
		k := newCrowd(n)
		for range 60 {
			k.round(r)
			for _, d := range k.up {
				for _, c := range d.All() {
					if c != alive(c.Node, 0) {
						t.Errorf("of %d nodes, one is held to be %s", n, health.Text(c))
					}
				}
			}
		}
		for _, d := range k.up {
			if len(d.All()) != n {
				t.Errorf("of %d nodes, known are %v", n, d.All())
			}
		}
	}
}

// P6.2, P6.3: who does not answer is held to be dead by all, and nobody else is.
func TestCrowdWithOneDown(t *testing.T) {
	r := rand.New(rand.NewSource(3))
	for n := 2; n <= api.Nodes; n++ {
		k := newCrowd(n)
		for range 40 {
			k.round(r)
		}
		k.up[n-1] = nil
		for range 60 {
			k.round(r)
		}
		for node, d := range k.up[:n-1] {
			if d.Of(n-1) != dead(n-1, 0) || d.Inc() != 0 {
				t.Errorf("of %d nodes, node %d believes %v", n, node, d.All())
			}
		}
		// It comes again, hears what is said of it, and is alive to all.
		k.up[n-1] = swim.New(n-1, 0)
		for range 60 {
			k.round(r)
		}
		for node, d := range k.up {
			if c := d.Of(n - 1); c.Health != api.HAlive || c.Inc < 1 {
				t.Errorf("of %d nodes, node %d believes %v", n, node, d.All())
			}
		}
	}
}

// P6.2, P6.3: where two nodes do not hear one another, others ask for them, and
// nobody is suspected.
func TestCrowdAsksForOthers(t *testing.T) {
	r := rand.New(rand.NewSource(4))
	k := newCrowd(5)
	k.arrive = func(d *swim.Detector, m api.Msg) []api.Msg {
		if m.From+m.To == 1 {
			return nil
		}
		return d.Handle(m)
	}
	for range 100 {
		k.round(r)
	}
	for node, d := range k.up {
		if d.Inc() != 0 || len(d.All()) != 5 {
			t.Errorf("node %d has %d, and believes %v", node, d.Inc(), d.All())
		}
		for _, c := range d.All() {
			if c.Health != api.HAlive {
				t.Errorf("node %d believes %v", node, d.All())
			}
		}
	}
}

// P6.5: whoever hears that it is suspected is alive with a greater incarnation
// from then on, and nothing that is believed becomes less, whatever is lost.
func TestCrowdThatLoses(t *testing.T) {
	r := rand.New(rand.NewSource(5))
	refuted := 0
	for range 60 {
		k := newCrowd(2 + r.Intn(api.Nodes-1))
		losses := r.Intn(100)
		k.arrive = func(d *swim.Detector, m api.Msg) []api.Msg {
			if r.Intn(100) < losses {
				return nil
			}
			if worst, is := accusation(d, m); is {
				refuted++
				return mustRefute(t, d, m, worst)
			}
			return d.Handle(m)
		}
		for range 120 {
			before := make([][]api.Claim, len(k.up))
			for i, d := range k.up {
				before[i] = d.All()
			}
			k.round(r)
			for i, d := range k.up {
				mustNotSink(t, d, before[i])
			}
		}
		k.arrive = (*swim.Detector).Handle
		for range 120 {
			k.round(r)
		}
		k.mustAllBeAlive(t)
	}
	if refuted < 100 {
		t.Errorf("only %d were refuted", refuted)
	}
}

// accusation is the greatest claim of m that d must refute.
func accusation(d *swim.Detector, m api.Msg) (api.Claim, bool) {
	worst := api.Claim{Node: m.To}
	for _, c := range m.Claims {
		if c.Node == m.To && (c.Health == api.HSuspect || c.Health == api.HDead) && c.Inc >= d.Inc() {
			worst = health.Louder(worst, c)
		}
	}
	return worst, worst.Health != api.HNone
}

// mustRefute lets d handle m, which holds this accusation.
func mustRefute(t *testing.T, d *swim.Detector, m api.Msg, worst api.Claim) []api.Msg {
	t.Helper()
	sent := d.Handle(m)
	self := d.Of(m.To)
	if self != alive(m.To, worst.Inc+1) || d.Inc() != self.Inc || health.Compare(self, worst) <= 0 {
		t.Errorf("after %s: %s", health.Text(worst), health.Text(self))
	}
	return sent
}

// mustAllBeAlive is T4: when nothing is lost any more, all are alive to all.
func (k *crowd) mustAllBeAlive(t *testing.T) {
	t.Helper()
	for node, d := range k.up {
		for other, e := range k.up {
			if d.Of(other) != alive(other, e.Inc()) {
				t.Errorf("node %d believes %v", node, d.All())
			}
		}
	}
}
