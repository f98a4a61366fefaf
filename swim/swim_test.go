package swim_test

import (
	"math"
	"reflect"
	"slices"
	"testing"

	"starling/api"
	"starling/health"
	"starling/probe"
	"starling/swim"
)

func claim(node, inc, status int) api.Claim {
	return api.Claim{Node: node, Inc: inc, Health: status}
}

func alive(node, inc int) api.Claim   { return claim(node, inc, api.HAlive) }
func suspect(node, inc int) api.Claim { return claim(node, inc, api.HSuspect) }
func dead(node, inc int) api.Claim    { return claim(node, inc, api.HDead) }
func left(node, inc int) api.Claim    { return claim(node, inc, api.HLeft) }

func ping(from, to, seq, on int, claims ...api.Claim) api.Msg {
	return api.Msg{Kind: api.MPing, From: from, To: to, Seq: seq, For: on, Claims: claims}
}

func ack(from, to, seq, on int, claims ...api.Claim) api.Msg {
	return api.Msg{Kind: api.MAck, From: from, To: to, Seq: seq, For: on, Claims: claims}
}

func pingReq(from, to, seq, about int, claims ...api.Claim) api.Msg {
	return api.Msg{Kind: api.MPingReq, From: from, To: to, Seq: seq, About: about, Claims: claims}
}

// other is a message of a kind that a detector does nothing with but hear.
func other(from, to int, claims ...api.Claim) api.Msg {
	return api.Msg{Kind: api.MRing, From: from, To: to, Claims: claims}
}

// detector is one that heard these claims, and told them until nothing is left
// to be told.
func detector(t *testing.T, self, inc int, claims ...api.Claim) *swim.Detector {
	t.Helper()
	d := swim.New(self, inc)
	for _, c := range claims {
		mustHear(t, d, c, api.OK)
	}
	tellAll(d, self, claims[0].Node)
	return d
}

// tellAll lets d tell everything that is still to be told, asked by a node.
func tellAll(d *swim.Detector, self, by int) {
	for range api.Nodes * api.Retell {
		d.Handle(ping(by, self, 0, 0))
	}
}

func mustHear(t *testing.T, d *swim.Detector, c api.Claim, want api.Errno) {
	t.Helper()
	if got := d.Hear(c); got != want {
		t.Errorf("Hear(%s) = %d, not %d", health.Text(c), got, want)
	}
}

func mustBelieve(t *testing.T, d *swim.Detector, want ...api.Claim) {
	t.Helper()
	for _, c := range want {
		if got := d.Of(c.Node); got != c {
			t.Errorf("Of(%d) = %+v, not %+v", c.Node, got, c)
		}
	}
}

// mustAll holds all that is believed against what must be.
func mustAll(t *testing.T, d *swim.Detector, want ...api.Claim) {
	t.Helper()
	if got := d.All(); !slices.Equal(got, want) {
		t.Errorf("All() = %v, not %v", got, want)
	}
	for node := -1; node <= api.Nodes; node++ {
		c := api.Claim{}
		if 0 <= node && node < api.Nodes {
			c.Node = node
		}
		if i := slices.IndexFunc(want, func(c api.Claim) bool { return c.Node == node }); i >= 0 {
			c = want[i]
		}
		if got := d.Of(node); got != c {
			t.Errorf("Of(%d) = %+v, not %+v", node, got, c)
		}
	}
}

// mustSend holds messages, field by field, against those that must be sent.
func mustSend(t *testing.T, got []api.Msg, want ...api.Msg) {
	t.Helper()
	if len(got) != len(want) {
		t.Errorf("sent are %+v, not %+v", got, want)
		return
	}
	for i := range want {
		if !reflect.DeepEqual(got[i], want[i]) {
			t.Errorf("message %d is %+v, not %+v", i, got[i], want[i])
		}
	}
}

// mustTell holds the claims of the only message against what it must tell.
func mustTell(t *testing.T, sent []api.Msg, want ...api.Claim) {
	t.Helper()
	if len(sent) != 1 || !slices.Equal(sent[0].Claims, want) {
		t.Errorf("told is %+v, not %+v", sent, want)
	}
}

// skip lets some ticks pass, in which nothing may be sent.
func skip(t *testing.T, d *swim.Detector, ticks int, peers ...int) {
	t.Helper()
	for range ticks {
		mustSend(t, d.Tick(peers, 0))
	}
}

// P6.2: the example.
func TestExample(t *testing.T) {
	d := swim.New(0, 0)
	mustSend(t, d.Tick([]int{1}, 1), ping(0, 1, 1, 0, alive(0, 0)))
}

// P6.1: the bounds of both arguments.
func TestNewArguments(t *testing.T) {
	for _, x := range []struct {
		self, inc int
		want      bool
	}{
		{0, 0, true}, {7, 0, true}, {0, api.MaxInc, true}, {7, api.MaxInc, true}, {3, 5, true},
		{-1, 0, false}, {8, 0, false}, {0, -1, false}, {0, api.MaxInc + 1, false},
		{-1, -1, false}, {8, api.MaxInc + 1, false},
		{math.MinInt, 0, false}, {math.MaxInt, 0, false},
		{0, math.MinInt, false}, {0, math.MaxInt, false}, {1 << 32, 0, false}, {0, 1 << 32, false},
	} {
		d := swim.New(x.self, x.inc)
		if (d != nil) != x.want {
			t.Errorf("New(%d, %d) = %v", x.self, x.inc, d)
		}
		if !x.want {
			continue
		}
		mustAll(t, d, alive(x.self, x.inc))
		if d.Inc() != x.inc || d.Now() != 0 || d.Over() {
			t.Errorf("New(%d, %d): %d, %d, %v", x.self, x.inc, d.Inc(), d.Now(), d.Over())
		}
	}
}

// P6.1: nothing is to be told at first, and nobody is asked.
func TestNewIsEmpty(t *testing.T) {
	d := swim.New(3, 9)
	mustTell(t, d.Handle(pingReq(1, 3, 1, 5)), alive(3, 9), alive(1, 0))
	d = swim.New(3, 9)
	// An answer with the number that no node was asked with yet.
	mustSend(t, d.Handle(ack(1, 3, 0, 3)))
	mustSend(t, d.Tick([]int{1}, 0), ping(3, 1, 1, 3, alive(3, 9), alive(1, 0)))
}

// P6.2: Now counts the ticks, whatever is done in them.
func TestNowCounts(t *testing.T) {
	d := swim.New(0, 0)
	for i := range 30 {
		if d.Now() != i {
			t.Errorf("Now() = %d, not %d", d.Now(), i)
		}
		d.Tick([]int{1, 2}, uint64(i))
		d.Handle(ping(1, 0, 1, 1))
		d.Hear(suspect(2, i))
	}
}

// P6.2: who is asked, by what is given in that tick alone.
func TestAskNext(t *testing.T) {
	for self := range api.Nodes {
		d, o := swim.New(self, 1), probe.New(self)
		seq := 0
		for i := range 60 {
			peers := [][]int{{0, 1, 2, 3, 4, 5, 6, 7}, {2, 1, 2, 0, -1, 8}, {6, 5, 4, 3}}[i/9%3]
			draw := uint64(i*i) * 0x9e3779b97f4a7c15
			to := o.Next(peers, draw)
			seq++
			mustSend(t, d.Tick(peers, draw), ping(self, to, seq, self, alive(self, 1)))
			mustSend(t, d.Handle(ack(to, self, seq, self)))
			tellAll(d, self, to)
		}
	}
}

// P6.2: where there is nobody to be asked, nobody is, and no number is used up.
func TestAskNobody(t *testing.T) {
	for _, peers := range [][]int{nil, {}, {3}, {3, 3}, {-1, 8, 3}, {math.MinInt, math.MaxInt}} {
		d := swim.New(3, 0)
		for range 12 {
			mustSend(t, d.Tick(peers, 5))
		}
		mustAll(t, d, alive(3, 0))
		mustSend(t, d.Tick([]int{4}, 5), ping(3, 4, 1, 3, alive(3, 0)))
		// No moment waits for the peers that came too late.
		skip(t, d, 1, 4)
	}
}

// P6.2: one node at a time is asked.
func TestAskOneAtATime(t *testing.T) {
	d := swim.New(0, 0)
	mustSend(t, d.Tick([]int{1}, 0), ping(0, 1, 1, 0, alive(0, 0)))
	skip(t, d, 3, 1)
	mustSend(t, d.Tick([]int{1}, 0), ping(0, 1, 2, 0, alive(0, 0)))
	skip(t, d, 3, 1)
	mustSend(t, d.Tick([]int{1}, 0), ping(0, 1, 3, 0, alive(0, 0)))
}

// P6.2: others are asked when TAsk has passed, once, with the peers and the
// draw of that tick.
func TestAskHelpers(t *testing.T) {
	for _, x := range []struct {
		peers  []int
		others []int // than 0 and 1, reduced
	}{
		{nil, nil}, {[]int{1}, nil}, {[]int{0, 1, 1, -1, 8}, nil},
		{[]int{1, 2}, []int{2}}, {[]int{2, 2, 2}, []int{2}}, {[]int{5, 4}, []int{4, 5}},
		{[]int{7, 2, 5, 1, 0, 2, 9}, []int{2, 5, 7}},
		{[]int{7, 6, 5, 4, 3, 2, 1, 0}, []int{2, 3, 4, 5, 6, 7}},
		{slices.Repeat([]int{6, 3, 1, 6, 0, 4}, 40), []int{3, 4, 6}},
	} {
		for draw := range uint64(40) {
			d := swim.New(0, 0)
			mustSend(t, d.Tick([]int{1}, 99), ping(0, 1, 1, 0, alive(0, 0)))
			mustSend(t, d.Tick([]int{1, 2, 3}, 98))
			var want []api.Msg
			for _, to := range probe.Some(x.others, 2, draw) {
				want = append(want, pingReq(0, to, 1, 1, alive(0, 0)))
			}
			mustSend(t, d.Tick(x.peers, draw), want...)
			mustSend(t, d.Tick([]int{1, 2, 3}, 97))
		}
	}
}

// P6.2: others are asked with the number of the present question.
func TestAskHelpersWithTheSeq(t *testing.T) {
	d := swim.New(0, 0)
	for seq := 1; seq <= 3; seq++ {
		mustSend(t, d.Tick([]int{1}, 0), ping(0, 1, seq, 0, alive(0, 0)))
		skip(t, d, 1, 1)
		mustSend(t, d.Tick([]int{1, 4}, 0), pingReq(0, 4, seq, 1, alive(0, 0)))
		skip(t, d, 1, 1)
	}
}

// P6.2: who does not answer is doubted when TDoubt has passed, if it is
// believed to be alive; then the next one is asked in any case.
func TestDoubt(t *testing.T) {
	for _, x := range []struct{ before, after api.Claim }{
		{api.Claim{Node: 1}, api.Claim{Node: 1}},
		{alive(1, 0), suspect(1, 0)}, {alive(1, 7), suspect(1, 7)},
		{alive(1, api.MaxInc), suspect(1, api.MaxInc)},
		{dead(1, 0), dead(1, 0)}, {dead(1, 7), dead(1, 7)}, {left(1, 7), left(1, 7)},
	} {
		d := swim.New(0, 0)
		d.Hear(x.before)
		if got := d.Tick([]int{1}, 0); len(got) != 1 || got[0].Seq != 1 {
			t.Errorf("sent are %+v", got)
		}
		skip(t, d, 3, 1)
		mustBelieve(t, d, x.before)
		if got := d.Tick([]int{1, 2}, 0); len(got) != 1 || got[0].Kind != api.MPing || got[0].Seq != 2 {
			t.Errorf("sent are %+v", got)
		}
		mustBelieve(t, d, x.after, api.Claim{Node: 2}, alive(0, 0))
	}
}

// P6.2: who is suspected already is not suspected anew: its time goes on.
func TestDoubtOfTheSuspected(t *testing.T) {
	d := swim.New(0, 0)
	d.Tick([]int{1}, 0)
	skip(t, d, 1, 1)
	mustHear(t, d, suspect(1, 3), api.OK)
	for i := 3; i <= 7; i++ {
		d.Tick([]int{1}, 0)
		mustBelieve(t, d, suspect(1, 3))
	}
	d.Tick([]int{1}, 0)
	mustBelieve(t, d, dead(1, 3))
}

// P6.2: who is suspected is held to be dead when TDead has passed since.
func TestDead(t *testing.T) {
	for node := 1; node < api.Nodes; node++ {
		for _, inc := range []int{0, 5, api.MaxInc} {
			for ticks := range 4 {
				d := swim.New(0, 0)
				skip(t, d, ticks)
				mustHear(t, d, suspect(node, inc), api.OK)
				for range 5 {
					skip(t, d, 1)
					mustAll(t, d, alive(0, 0), suspect(node, inc))
				}
				skip(t, d, 1)
				mustAll(t, d, alive(0, 0), dead(node, inc))
				skip(t, d, 20)
				mustAll(t, d, alive(0, 0), dead(node, inc))
			}
		}
	}
}

// P6.2: whoever is doubted in a tick has its time from that tick on.
func TestDeadAfterDoubt(t *testing.T) {
	d := detector(t, 0, 0, alive(1, 2))
	for i := 1; i <= 11; i++ {
		d.Tick([]int{1}, 0)
		want := alive(1, 2)
		if i >= 5 {
			want.Health = api.HSuspect
		}
		if i >= 11 {
			want.Health = api.HDead
		}
		mustBelieve(t, d, want)
	}
}

// To hear: a greater claim of any kind stops the time, or starts it anew.
func TestDeadNoMore(t *testing.T) {
	for _, x := range []struct {
		c    api.Claim
		want []api.Claim // what is believed after 1 to 6 ticks more
	}{
		{alive(1, 4), slices.Repeat([]api.Claim{alive(1, 4)}, 6)},
		{left(1, 0), slices.Repeat([]api.Claim{left(1, 0)}, 6)},
		{dead(1, 3), slices.Repeat([]api.Claim{dead(1, 3)}, 6)},
		{dead(1, 9), slices.Repeat([]api.Claim{dead(1, 9)}, 6)},
		{suspect(1, 4), append(slices.Repeat([]api.Claim{suspect(1, 4)}, 5), dead(1, 4))},
		// these are not greater, and change nothing
		{suspect(1, 3), append([]api.Claim{suspect(1, 3)}, slices.Repeat([]api.Claim{dead(1, 3)}, 5)...)},
		{alive(1, 3), append([]api.Claim{suspect(1, 3)}, slices.Repeat([]api.Claim{dead(1, 3)}, 5)...)},
		{suspect(1, 2), append([]api.Claim{suspect(1, 3)}, slices.Repeat([]api.Claim{dead(1, 3)}, 5)...)},
	} {
		d := swim.New(0, 0)
		mustHear(t, d, suspect(1, 3), api.OK)
		skip(t, d, 4)
		mustHear(t, d, x.c, api.OK)
		for i, want := range x.want {
			skip(t, d, 1)
			if got := d.Of(1); got != want {
				t.Errorf("%s, %d ticks on: %s, not %s", health.Text(x.c), i+1, health.Text(got), health.Text(want))
			}
		}
	}
}

// P6.2: each suspected node has a moment of its own.
func TestDeadEachInItsTime(t *testing.T) {
	d := swim.New(0, 0)
	for i, node := range []int{4, 2, 7, 1} {
		skip(t, d, 1)
		mustHear(t, d, suspect(node, i), api.OK)
	}
	mustHear(t, d, alive(2, 5), api.OK)
	skip(t, d, 2)
	mustAll(t, d, alive(0, 0), suspect(1, 3), alive(2, 5), suspect(4, 0), suspect(7, 2))
	skip(t, d, 1)
	mustAll(t, d, alive(0, 0), suspect(1, 3), alive(2, 5), dead(4, 0), suspect(7, 2))
	skip(t, d, 1)
	mustHear(t, d, suspect(1, 4), api.OK)
	mustAll(t, d, alive(0, 0), suspect(1, 4), alive(2, 5), dead(4, 0), suspect(7, 2))
	skip(t, d, 1)
	mustAll(t, d, alive(0, 0), suspect(1, 4), alive(2, 5), dead(4, 0), dead(7, 2))
	skip(t, d, 4)
	mustAll(t, d, alive(0, 0), suspect(1, 4), alive(2, 5), dead(4, 0), dead(7, 2))
	skip(t, d, 1)
	mustAll(t, d, alive(0, 0), dead(1, 4), alive(2, 5), dead(4, 0), dead(7, 2))
}

// P6.2: what is due goes by id: others are asked before a node is doubted or
// held to be dead, and the next one is asked after it.
func TestDueInOrder(t *testing.T) {
	d := detector(t, 0, 0, alive(1, 0), alive(3, 0), alive(4, 0))
	skip(t, d, 1)
	mustHear(t, d, suspect(3, 2), api.OK) // dead at 7
	skip(t, d, 3)
	d.Tick([]int{1}, 0) // 5: others are asked at 7
	skip(t, d, 1, 1)
	mustSend(t, d.Tick([]int{1, 4}, 0), pingReq(0, 4, 1, 1, alive(0, 0), suspect(3, 2)))
	mustBelieve(t, d, dead(3, 2))
	mustHear(t, d, suspect(4, 2), api.OK) // 7: dead at 13
	skip(t, d, 1, 1)
	// 9: doubted, and the next one is asked, and hears of it
	mustSend(t, d.Tick([]int{1}, 0), ping(0, 1, 2, 0, alive(0, 0), suspect(1, 0), suspect(1, 0), dead(3, 2)))
	mustBelieve(t, d, suspect(1, 0))
	skip(t, d, 3, 1)
	// 13: node 4 is held to be dead before the next one is asked
	mustSend(t, d.Tick([]int{1}, 0), ping(0, 1, 3, 0, alive(0, 0), suspect(1, 0), dead(4, 2), suspect(1, 0)))
	mustBelieve(t, d, dead(4, 2))
}

// P6.2: all moments of the same tick are due in it.
func TestDeadAtOnce(t *testing.T) {
	d := swim.New(0, 0)
	for _, node := range []int{5, 2, 6} {
		mustHear(t, d, suspect(node, 1), api.OK)
	}
	skip(t, d, 6)
	mustAll(t, d, alive(0, 0), dead(2, 1), dead(5, 1), dead(6, 1))
}

// P6.2: after MaxNum, Seq is 1 again, and is answered all the same.
func TestSeqBeginsAnew(t *testing.T) {
	d := swim.New(0, 0)
	peers := []int{1}
	for range api.MaxNum - 1 {
		m := d.Tick(peers, 0)[0]
		d.Handle(ack(1, 0, m.Seq, 0))
	}
	for _, seq := range []int{api.MaxNum, 1, 2} {
		mustSend(t, d.Tick(peers, 0), ping(0, 1, seq, 0, alive(0, 0)))
		mustSend(t, d.Handle(ack(1, 0, seq, 0)))
	}
}

// P6.2: each peer is asked once per round.
func TestAskRounds(t *testing.T) {
	d := swim.New(2, 0)
	peers := []int{7, 1, 0, 5, 2, 3}
	for round := range uint64(50) {
		var asked []int
		for i := range uint64(5) {
			m := d.Tick(peers, round*7+i)[0]
			asked = append(asked, m.To)
			d.Handle(ack(m.To, 2, m.Seq, 2))
		}
		slices.Sort(asked)
		if !slices.Equal(asked, []int{0, 1, 3, 5, 7}) {
			t.Errorf("round %d asks %v", round, asked)
		}
	}
}

// P6.2, R2: the peers are neither changed nor kept, nor is what lies behind them.
func TestPeersAreTheCallers(t *testing.T) {
	d, o := swim.New(0, 0), probe.New(0)
	room := []int{5, 1, 3, 3, 0, 6, 6, 6}
	kept := slices.Clone(room)
	for i := range uint64(30) {
		peers := room[:5]
		sent := d.Tick(peers, i)
		if !slices.Equal(room, kept) {
			t.Fatalf("peers are %v now", room)
		}
		if len(sent) > 0 && sent[0].Kind == api.MPing && sent[0].To != o.Next([]int{1, 3, 5}, i) {
			t.Errorf("%d is asked", sent[0].To)
		}
		clear(peers)
		copy(room, kept)
	}
}

// P6.3: a message to another node, or not of another node, does nothing.
func TestHandleAddresses(t *testing.T) {
	for _, x := range [][2]int{
		{1, 3}, {1, -1}, {1, 8}, {2, 2}, {-1, 2}, {8, 2}, {2, 1},
		{math.MinInt, 2}, {math.MaxInt, 2}, {1, math.MinInt}, {1, math.MaxInt}, {1 + 1<<32, 2},
	} {
		for kind := range 10 {
			d := swim.New(2, 7)
			d.Tick([]int{1}, 0)
			claims := []api.Claim{suspect(2, 9), alive(4, 1)}
			mustSend(t, d.Handle(api.Msg{Kind: kind, From: x[0], To: x[1], Seq: 1, For: 2, About: 4, Claims: claims}))
			mustAll(t, d, alive(2, 7))
			if d.Inc() != 7 {
				t.Errorf("Inc() = %d", d.Inc())
			}
			// the node that is asked is so still
			skip(t, d, 1, 1)
			mustSend(t, d.Tick([]int{3}, 0), pingReq(2, 3, 1, 1, alive(2, 7)))
		}
	}
}

// P6.3: who speaks is alive, with what is believed, unless it is held to be worse.
func TestHandleHearsThatFromIsAlive(t *testing.T) {
	for _, x := range []struct{ before, after api.Claim }{
		{api.Claim{Node: 5}, alive(5, 0)}, {alive(5, 0), alive(5, 0)}, {alive(5, 3), alive(5, 3)},
		{suspect(5, 0), suspect(5, 0)}, {suspect(5, 3), suspect(5, 3)},
		{dead(5, 3), dead(5, 3)}, {left(5, 3), left(5, 3)}, {left(5, 0), left(5, 0)},
		{suspect(5, api.MaxInc), suspect(5, api.MaxInc)},
	} {
		for kind := range 10 {
			d := swim.New(2, 7)
			d.Hear(x.before)
			d.Handle(api.Msg{Kind: kind, From: 5, To: 2, For: 2})
			mustAll(t, d, alive(2, 7), x.after)
		}
	}
}

// P6.3: that it is alive is told on, if it was not known.
func TestHandleTellsThatFromIsAlive(t *testing.T) {
	d := swim.New(2, 7)
	for range 5 {
		mustSend(t, d.Handle(other(5, 2)))
	}
	for range api.Retell {
		mustTell(t, d.Handle(pingReq(5, 2, 0, 6)), alive(2, 7), alive(5, 0))
	}
	mustTell(t, d.Handle(pingReq(5, 2, 0, 6)), alive(2, 7))
}

// P6.3: the claims of a message are heard before it is said that From is alive.
func TestHandleHearsClaimsFirst(t *testing.T) {
	for _, c := range []api.Claim{alive(5, 4), suspect(5, 0), suspect(5, 4), dead(5, 4), left(5, 4)} {
		d := swim.New(2, 7)
		d.Handle(other(5, 2, c))
		mustAll(t, d, alive(2, 7), c)
		if sent := d.Handle(pingReq(6, 2, 0, 0)); len(sent) != 1 || !slices.Equal(sent[0].Claims[1:], []api.Claim{c, alive(6, 0)}) {
			t.Errorf("told is %+v", sent)
		}
	}
}

// P6.3: the valid claims are heard, at most the first four; those in which
// nothing is said are among them.
func TestHandleClaims(t *testing.T) {
	bad := []api.Claim{
		alive(8, 1), alive(-1, 1), claim(3, 1, 0), claim(3, 1, 5), claim(3, 0, -1),
		alive(3, -1), alive(3, api.MaxInc+1), dead(math.MaxInt, 1), alive(3, math.MinInt),
	}
	for _, x := range []struct {
		claims, want []api.Claim
	}{
		{nil, nil},
		{[]api.Claim{alive(0, 1)}, []api.Claim{alive(0, 1)}},
		{bad, nil},
		{append(slices.Clone(bad), alive(0, 1)), []api.Claim{alive(0, 1)}},
		{append(slices.Clone(bad), alive(0, 1), alive(3, 1), alive(5, 1), alive(6, 1), alive(7, 1)),
			[]api.Claim{alive(0, 1), alive(3, 1), alive(5, 1), alive(6, 1)}},
		{[]api.Claim{alive(7, 1), {Node: 3}, {Node: 4}, alive(6, 1), alive(5, 1)},
			[]api.Claim{alive(6, 1), alive(7, 1)}},
		{[]api.Claim{{Node: 3}, {Node: 2}, {Node: 3}, {Node: 3}, alive(6, 1)}, nil},
		// those that are not greater count too
		{[]api.Claim{dead(3, 1), alive(3, 1), suspect(3, 1), dead(3, 1), alive(3, 2)},
			[]api.Claim{dead(3, 1)}},
		{[]api.Claim{alive(2, 3), left(2, 3), dead(2, 6), suspect(2, 3), alive(3, 2)}, nil},
		{[]api.Claim{alive(3, 1), suspect(3, 2), dead(3, 3), left(3, 0)}, []api.Claim{left(3, 0)}},
	} {
		d := swim.New(2, 7)
		d.Handle(other(1, 2, x.claims...))
		want := append([]api.Claim{alive(1, 0), alive(2, 7)}, x.want...)
		slices.SortFunc(want, func(a, b api.Claim) int { return a.Node - b.Node })
		mustAll(t, d, want...)
	}
}

// P6.3: the first four that are refuted count as well.
func TestHandleClaimsOfSelf(t *testing.T) {
	d := swim.New(2, 7)
	d.Handle(other(1, 2, suspect(2, 7), dead(2, 8), suspect(2, 8), dead(2, 20), dead(2, 30)))
	mustAll(t, d, alive(1, 0), alive(2, 21))
	if d.Inc() != 21 || d.Over() {
		t.Errorf("%d, %v", d.Inc(), d.Over())
	}
}

// P6.3: a claim that cannot be refuted does not keep the others from being heard.
func TestHandleClaimsOver(t *testing.T) {
	d := swim.New(2, 7)
	mustTell(t, d.Handle(ping(1, 2, 3, 1, dead(2, api.MaxInc), alive(4, 4), suspect(2, 7))),
		alive(2, 8), alive(1, 0), alive(2, 8))
	mustAll(t, d, alive(1, 0), alive(2, 8), alive(4, 4))
	if !d.Over() {
		t.Error("Over() = false")
	}
}

// P6.3: MPing is answered, with its Seq and For.
func TestHandlePing(t *testing.T) {
	for _, n := range []int{0, 1, 2, 5, 7, 8, -1, 99, math.MinInt, math.MaxInt} {
		d := detector(t, 2, 7, alive(4, 0))
		mustSend(t, d.Handle(ping(4, 2, n, 6)), ack(2, 4, n, 6, alive(2, 7)))
		mustSend(t, d.Handle(ping(4, 2, 6, n)), ack(2, 4, 6, n, alive(2, 7)))
	}
}

// P6.3, R7: what the message holds beside is not sent back.
func TestHandleSendsNothingElse(t *testing.T) {
	full := api.Msg{
		From: 4, To: 2, Seq: 5, For: 4, About: 6, Part: 3, Epoch: 4, Key: "k",
		Bag:  api.Bag{Known: api.Vector{1, 2}, Values: []api.Value{{Data: "d"}}},
		Ring: api.Ring{Plan: api.Plan{Targets: []int{1}}},
	}
	for _, x := range []struct {
		kind int
		want api.Msg
	}{
		{api.MPing, ack(2, 4, 5, 4, alive(2, 7))},
		{api.MAck, ack(2, 4, 5, 4, alive(2, 7))},
		{api.MPingReq, ping(2, 6, 5, 4, alive(2, 7))},
	} {
		d := detector(t, 2, 7, alive(4, 0))
		full.Kind = x.kind
		mustSend(t, d.Handle(full), x.want)
	}
}

// P6.3: MAck for another node is sent on to it.
func TestHandleAckForAnother(t *testing.T) {
	for on := -1; on <= api.Nodes; on++ {
		for _, seq := range []int{0, 1, 9, -1, math.MaxInt} {
			d := detector(t, 2, 7, alive(4, 0))
			d.Tick([]int{5}, 0)
			got := d.Handle(ack(4, 2, seq, on))
			if on == 2 || on == -1 || on == api.Nodes {
				mustSend(t, got)
			} else {
				mustSend(t, got, ack(2, on, seq, on, alive(2, 7)))
			}
		}
	}
	d := detector(t, 2, 7, alive(4, 0))
	for _, on := range []int{math.MinInt, math.MaxInt, 2 + 1<<32} {
		mustSend(t, d.Handle(ack(4, 2, 1, on)))
	}
}

// P6.3: the answer to the present question ends it, whoever brings it; all
// others do not.
func TestHandleAckForSelf(t *testing.T) {
	for _, x := range []struct {
		m    api.Msg
		ends bool
	}{
		{ack(5, 2, 2, 2), true}, {ack(0, 2, 2, 2), true}, {ack(7, 2, 2, 2), true},
		{ack(5, 2, 1, 2), false}, {ack(5, 2, 3, 2), false}, {ack(5, 2, 0, 2), false},
		{ack(5, 2, -2, 2), false}, {ack(5, 2, 2, 4), false}, {ack(5, 2, 2, 8), false},
		{ack(5, 2, 2, -1), false}, {ping(5, 2, 2, 2), false}, {other(5, 2), false},
		{pingReq(5, 2, 2, 2), false},
	} {
		d := detector(t, 2, 7, alive(5, 0), alive(0, 0), alive(7, 0))
		d.Tick([]int{5}, 0)
		mustSend(t, d.Handle(ack(5, 2, 1, 2)))
		mustSend(t, d.Tick([]int{5}, 0), ping(2, 5, 2, 2, alive(2, 7)))
		d.Handle(x.m)
		got := d.Tick([]int{5}, 0)
		if x.ends {
			mustSend(t, got, ping(2, 5, 3, 2, alive(2, 7)))
			mustSend(t, d.Handle(ack(5, 2, 2, 2)))
		} else {
			mustSend(t, got)
		}
		// others are asked TAsk after the latest question
		got = d.Tick([]int{5, 6}, 0)
		if x.ends {
			mustSend(t, got)
			mustSend(t, d.Tick([]int{5, 6}, 0), pingReq(2, 6, 3, 5, alive(2, 7)))
		} else {
			mustSend(t, got, pingReq(2, 6, 2, 5, alive(2, 7)))
		}
	}
}

// P6.3: after an answer neither others are asked nor anybody is doubted.
func TestHandleAckCutsTheMoments(t *testing.T) {
	for before := range 4 {
		for after := range 7 {
			d := detector(t, 2, 7, alive(5, 0))
			d.Tick([]int{5}, 0)
			skip(t, d, before, 5)
			mustSend(t, d.Handle(ack(5, 2, 1, 2)))
			// nobody is a peer, so that no new question sets the moments anew
			skip(t, d, after)
			mustBelieve(t, d, alive(5, 0))
			if got := d.Tick([]int{5, 6}, 0); len(got) != 1 || got[0].Kind != api.MPing || got[0].Seq != 2 {
				t.Errorf("sent are %+v", got)
			}
			mustBelieve(t, d, alive(5, 0))
		}
	}
}

// P6.3: an answer that comes when nobody is asked any more does nothing.
func TestHandleAckTooLate(t *testing.T) {
	d := detector(t, 2, 7, alive(5, 0))
	d.Tick([]int{5}, 0)
	mustSend(t, d.Handle(ack(5, 2, 1, 2)))
	mustSend(t, d.Handle(ack(5, 2, 1, 2)))
	mustSend(t, d.Tick([]int{5}, 0), ping(2, 5, 2, 2, alive(2, 7)))
	for range 4 {
		d.Tick(nil, 0)
	}
	// doubted; nobody is asked now
	mustBelieve(t, d, suspect(5, 0))
	mustSend(t, d.Handle(ack(5, 2, 2, 2)))
	mustBelieve(t, d, suspect(5, 0))
	if got := d.Tick([]int{5}, 0); len(got) != 1 || got[0].Seq != 3 {
		t.Errorf("sent are %+v", got)
	}
}

// P6.3: MPingReq asks another node on behalf of From.
func TestHandlePingReq(t *testing.T) {
	for about := -1; about <= api.Nodes; about++ {
		for _, seq := range []int{0, 1, 9, -1, math.MaxInt} {
			d := detector(t, 2, 7, alive(4, 0))
			got := d.Handle(pingReq(4, 2, seq, about))
			if about == 2 || about == -1 || about == api.Nodes {
				mustSend(t, got)
			} else {
				mustSend(t, got, ping(2, about, seq, 4, alive(2, 7)))
			}
		}
	}
	d := detector(t, 2, 7, alive(4, 0))
	for _, about := range []int{math.MinInt, math.MaxInt, 1 << 32} {
		mustSend(t, d.Handle(pingReq(4, 2, 1, about)))
	}
}

// P6.3: to ask on behalf of another node is no question of its own.
func TestHandlePingReqAsksNobody(t *testing.T) {
	d := detector(t, 2, 7, alive(4, 0), alive(6, 0))
	mustSend(t, d.Handle(pingReq(4, 2, 1, 6)), ping(2, 6, 1, 4, alive(2, 7)))
	for range 10 {
		mustSend(t, d.Tick(nil, 0))
	}
	mustBelieve(t, d, alive(6, 0))
	mustSend(t, d.Tick([]int{6}, 0), ping(2, 6, 1, 2, alive(2, 7)))
}

// P6.3: other kinds send nothing, but are heard.
func TestHandleOtherKinds(t *testing.T) {
	for _, kind := range []int{math.MinInt, -1, 0, 4, 5, 6, 7, 8, 9, 1 + 1<<32, math.MaxInt} {
		d := swim.New(2, 7)
		m := other(4, 2, suspect(6, 1), suspect(2, 7))
		m.Kind, m.For, m.About = kind, 4, 4
		mustSend(t, d.Handle(m))
		mustAll(t, d, alive(2, 8), alive(4, 0), suspect(6, 1))
	}
}

// P6.3, R2: the claims of a message are neither changed nor kept.
func TestHandleClaimsAreTheCallers(t *testing.T) {
	d := swim.New(2, 7)
	room := []api.Claim{alive(8, 1), alive(4, 4), suspect(5, 5), dead(6, 6), dead(7, 7)}
	kept := slices.Clone(room)
	d.Handle(other(1, 2, room[:4]...))
	if !slices.Equal(room, kept) {
		t.Errorf("claims are %v", room)
	}
	clear(room)
	mustAll(t, d, alive(1, 0), alive(2, 7), alive(4, 4), suspect(5, 5), dead(6, 6))
}

// To send: what is believed of To goes along, if it is suspected or dead.
func TestSendTellsTheSuspected(t *testing.T) {
	for _, x := range []struct {
		c    api.Claim
		told bool
	}{
		{alive(4, 1), false}, {suspect(4, 1), true}, {dead(4, 1), true}, {left(4, 1), false},
		{suspect(4, 0), true}, {dead(4, api.MaxInc), true},
	} {
		d := detector(t, 2, 7, x.c, alive(5, 0))
		want := []api.Claim{alive(2, 7)}
		if x.told {
			want = append(want, x.c)
		}
		for range 5 {
			mustTell(t, d.Handle(ping(4, 2, 1, 4)), want...)
			mustTell(t, d.Handle(ack(4, 2, 1, 4)), want...)
			mustTell(t, d.Handle(pingReq(5, 2, 1, 4)), want...)
			mustTell(t, d.Handle(ping(5, 2, 1, 5)), alive(2, 7))
		}
		mustTell(t, d.Tick([]int{4}, 0), want...)
	}
}

// To send: two claims of the queue at most, each Retell times in all.
func TestSendTellsTheQueue(t *testing.T) {
	for _, status := range []int{api.HAlive, api.HSuspect, api.HDead, api.HLeft} {
		d := detector(t, 2, 7, alive(0, 0))
		for _, node := range []int{7, 3, 1} {
			mustHear(t, d, claim(node, 5, status), api.OK)
		}
		one, three, seven := claim(1, 5, status), claim(3, 5, status), claim(7, 5, status)
		for _, want := range [][]api.Claim{
			{one, three}, {seven, one}, {three, seven}, {one, three}, {seven}, {}, {},
		} {
			mustTell(t, d.Handle(ping(0, 2, 1, 0)), append([]api.Claim{alive(2, 7)}, want...)...)
		}
	}
}

// To send: both together, which are four claims.
func TestSendTellsBoth(t *testing.T) {
	d := swim.New(2, 7)
	for node := 3; node <= 6; node++ {
		mustHear(t, d, suspect(node, 1), api.OK)
	}
	mustTell(t, d.Handle(ping(6, 2, 1, 0)), alive(2, 7), suspect(6, 1), suspect(3, 1), suspect(4, 1))
	mustTell(t, d.Handle(ping(6, 2, 1, 0)), alive(2, 7), suspect(6, 1), suspect(5, 1), suspect(6, 1))
}

// To send: each message of a tick takes claims of its own.
func TestSendInATick(t *testing.T) {
	d := swim.New(0, 0)
	d.Tick([]int{1}, 0)
	skip(t, d, 1, 1)
	for node := 3; node <= 7; node++ {
		mustHear(t, d, dead(node, 1), api.OK)
	}
	helpers := probe.Some([]int{2, 7}, 2, 3)
	got := d.Tick([]int{1, 2, 7}, 3)
	for i, c := range [][]api.Claim{{dead(3, 1), dead(4, 1)}, {dead(5, 1), dead(6, 1)}} {
		want := pingReq(0, helpers[i], 1, 1, alive(0, 0))
		if helpers[i] == 7 {
			want.Claims = append(want.Claims, dead(7, 1))
		}
		want.Claims = append(want.Claims, c...)
		mustSend(t, got[i:i+1], want)
	}
}

// To send: what is not sent uses up no telling.
func TestNotSentIsNotTold(t *testing.T) {
	d := swim.New(2, 7)
	mustHear(t, d, alive(3, 1), api.OK)
	for range 10 {
		d.Handle(ack(3, 2, 1, 2))
		d.Handle(other(3, 2))
		d.Handle(pingReq(3, 2, 1, 2))
		d.Handle(ping(3, 5, 1, 2))
		d.Tick(nil, 0)
	}
	for range api.Retell {
		mustTell(t, d.Handle(ping(3, 2, 1, 3)), alive(2, 7), alive(3, 1))
	}
	mustTell(t, d.Handle(ping(3, 2, 1, 3)), alive(2, 7))
}

// To hear: a claim that is not greater is not told again.
func TestHearTellsWhatIsNew(t *testing.T) {
	d := detector(t, 2, 7, suspect(4, 3))
	for _, c := range []api.Claim{suspect(4, 3), alive(4, 3), dead(4, 2), alive(4, 0)} {
		mustHear(t, d, c, api.OK)
		mustTell(t, d.Handle(ack(4, 2, 1, 5)), alive(2, 7))
	}
	mustHear(t, d, dead(4, 3), api.OK)
	mustTell(t, d.Handle(ack(4, 2, 1, 5)), alive(2, 7), dead(4, 3))
}

// P6.4: a claim that may not be, or says nothing.
func TestHearArguments(t *testing.T) {
	d := swim.New(2, api.MaxInc)
	for _, c := range []api.Claim{
		{}, {Node: 2}, {Node: 7}, alive(8, 1), alive(-1, 1), suspect(2, -1), dead(2, api.MaxInc+1),
		claim(2, 1, 0), claim(2, 1, 5), claim(2, 1, -1), claim(3, 1, math.MaxInt),
		suspect(math.MinInt, api.MaxInc), suspect(2, math.MaxInt), suspect(2+1<<32, 1),
	} {
		mustHear(t, d, c, api.ErrArg)
	}
	mustAll(t, d, alive(2, api.MaxInc))
	if d.Over() || d.Inc() != api.MaxInc {
		t.Errorf("%v, %d", d.Over(), d.Inc())
	}
}

// P6.4: claims about other nodes.
func TestHearOfOthers(t *testing.T) {
	d := swim.New(2, 7)
	for _, x := range []struct{ c, want api.Claim }{
		{suspect(0, 0), suspect(0, 0)}, {alive(0, 0), suspect(0, 0)}, {alive(0, 1), alive(0, 1)},
		{dead(0, 0), alive(0, 1)}, {dead(0, 1), dead(0, 1)}, {left(0, 0), left(0, 0)},
		{alive(0, api.MaxInc), left(0, 0)}, {left(0, 9), left(0, 0)},
		{dead(7, api.MaxInc), dead(7, api.MaxInc)},
	} {
		mustHear(t, d, x.c, api.OK)
		mustBelieve(t, d, x.want, alive(2, 7))
	}
	if d.Inc() != 7 || d.Over() {
		t.Errorf("%d, %v", d.Inc(), d.Over())
	}
}

// P6.4, P6.5: what is said of self is refuted, or ignored.
func TestHearOfSelf(t *testing.T) {
	for _, x := range []struct {
		c    api.Claim
		want int // the incarnation
		errs api.Errno
	}{
		{alive(2, 6), 7, api.OK}, {alive(2, 7), 7, api.OK}, {alive(2, 8), 7, api.OK},
		{alive(2, api.MaxInc), 7, api.OK}, {left(2, 7), 7, api.OK}, {left(2, api.MaxInc), 7, api.OK},
		{suspect(2, 6), 7, api.OK}, {dead(2, 6), 7, api.OK}, {dead(2, 0), 7, api.OK},
		{suspect(2, 7), 8, api.OK}, {dead(2, 7), 8, api.OK}, {suspect(2, 8), 9, api.OK},
		{dead(2, 500), 501, api.OK}, {dead(2, api.MaxInc-1), api.MaxInc, api.OK},
		{suspect(2, api.MaxInc), 7, api.ErrOver}, {dead(2, api.MaxInc), 7, api.ErrOver},
	} {
		d := swim.New(2, 7)
		mustHear(t, d, x.c, x.errs)
		mustAll(t, d, alive(2, x.want))
		if d.Inc() != x.want || d.Over() != (x.errs == api.ErrOver) {
			t.Errorf("%s: %d, %v", health.Text(x.c), d.Inc(), d.Over())
		}
		// a refutation is told like any other claim; what is ignored is not
		want := []api.Claim{alive(2, x.want), alive(1, 0)}
		if x.want > 7 {
			want = append(want, alive(2, x.want))
		}
		mustTell(t, d.Handle(ping(1, 2, 0, 0)), want...)
		// nor is self ever waited for
		for range 10 {
			d.Tick(nil, 0)
		}
		mustBelieve(t, d, alive(2, x.want))
	}
}

// P6.4: Over stays, and ends nothing.
func TestOverStays(t *testing.T) {
	d := swim.New(2, 7)
	mustHear(t, d, dead(2, api.MaxInc), api.ErrOver)
	mustHear(t, d, suspect(2, 7), api.OK)
	mustHear(t, d, alive(3, 7), api.OK)
	d.Tick(nil, 0)
	mustAll(t, d, alive(2, 8), alive(3, 7))
	if !d.Over() || d.Inc() != 8 {
		t.Errorf("%v, %d", d.Over(), d.Inc())
	}
	mustHear(t, d, dead(2, api.MaxInc), api.ErrOver)
	if d.Leave(); !d.Over() {
		t.Error("Over() = false")
	}
}

// P6.4: who leaves believes so, and says so each time.
func TestLeave(t *testing.T) {
	for _, inc := range []int{0, 7, api.MaxInc} {
		d := swim.New(2, inc)
		mustHear(t, d, alive(4, 4), api.OK)
		for range 3 {
			if c := d.Leave(); c != left(2, inc) {
				t.Errorf("Leave() = %+v", c)
			}
			mustAll(t, d, left(2, inc), alive(4, 4))
			if d.Inc() != inc || d.Over() {
				t.Errorf("%d, %v", d.Inc(), d.Over())
			}
		}
	}
}

// P6.2: after Leave, a tick only counts: nothing is due.
func TestTickAfterLeave(t *testing.T) {
	d := swim.New(2, 7)
	d.Tick([]int{4}, 0)
	mustHear(t, d, suspect(5, 1), api.OK)
	d.Leave()
	mustHear(t, d, suspect(6, 1), api.OK)
	for i := range 20 {
		mustSend(t, d.Tick([]int{4, 5}, 0))
		mustAll(t, d, left(2, 7), suspect(5, 1), suspect(6, 1))
		if d.Now() != i+2 {
			t.Errorf("Now() = %d, not %d", d.Now(), i+2)
		}
	}
}

// P6.3: after Leave, messages are heard, but nothing is sent.
func TestHandleAfterLeave(t *testing.T) {
	d := swim.New(2, 7)
	d.Leave()
	mustSend(t, d.Handle(ping(1, 2, 1, 1, alive(3, 3))))
	mustSend(t, d.Handle(ack(4, 2, 1, 1, suspect(5, 3))))
	mustSend(t, d.Handle(pingReq(6, 2, 1, 1, dead(7, 3))))
	mustSend(t, d.Handle(ping(0, 3, 1, 1)))
	mustAll(t, d, alive(1, 0), left(2, 7), alive(3, 3), alive(4, 0), suspect(5, 3), alive(6, 0), dead(7, 3))
	mustHear(t, d, left(3, 0), api.OK)
	mustHear(t, d, api.Claim{Node: 3}, api.ErrArg)
	mustBelieve(t, d, left(3, 0))
}

// P6.4: who has left may still be accused. It has left all the same, and its
// claim goes with the incarnation that it has.
func TestRefuteAfterLeave(t *testing.T) {
	d := swim.New(2, 7)
	d.Leave()
	mustHear(t, d, dead(2, 9), api.OK)
	if d.Inc() != 10 || d.Of(2) != left(2, 7) {
		t.Errorf("%d, %+v", d.Inc(), d.Of(2))
	}
	if c := d.Leave(); c != left(2, 10) {
		t.Errorf("Leave() = %+v", c)
	}
	mustAll(t, d, left(2, 7))
	mustHear(t, d, dead(2, api.MaxInc), api.ErrOver)
	if d.Inc() != 10 || !d.Over() {
		t.Errorf("%d, %v", d.Inc(), d.Over())
	}
}

// R2: what is answered belongs to the caller.
func TestAnswersAreNewMemory(t *testing.T) {
	build := func() (*swim.Detector, []api.Msg) {
		d := swim.New(0, 0)
		d.Tick([]int{1}, 0)
		d.Tick([]int{1}, 0)
		for node := 3; node <= 7; node++ {
			d.Hear(suspect(node, 1))
		}
		return d, d.Tick([]int{1, 3, 4}, 0)
	}
	d, sent := build()
	e, want := build()
	if len(sent) != 2 {
		t.Fatalf("sent are %+v", sent)
	}
	// each list is written to, beyond its end too, and the others stay
	for i := range sent {
		l := append(sent[i].Claims, dead(1, 99), dead(2, 99))
		for j := range l {
			l[j] = dead(2, 98)
		}
		sent[i].Claims = slices.Clone(want[i].Claims)
		mustSend(t, sent, want...)
	}
	_ = append(sent, api.Msg{}, api.Msg{})
	clear(sent)
	all := d.All()
	_ = append(all[:0], dead(2, 9), dead(2, 9), dead(2, 9))
	mustAll(t, d, e.All()...)
	for range 10 {
		mustSend(t, d.Handle(ping(3, 0, 1, 3)), e.Handle(ping(3, 0, 1, 3))...)
		mustSend(t, d.Tick([]int{1, 4}, 0), e.Tick([]int{1, 4}, 0)...)
	}
	mustAll(t, d, e.All()...)
}

// P6.1: what one detector hears is nothing to another one.
func TestDetectorsAreIndependent(t *testing.T) {
	d, e := swim.New(0, 0), swim.New(0, 0)
	d.Tick([]int{1, 2}, 5)
	d.Hear(suspect(3, 3))
	d.Hear(dead(0, 0))
	mustAll(t, e, alive(0, 0))
	if e.Now() != 0 || e.Inc() != 0 {
		t.Errorf("%d, %d", e.Now(), e.Inc())
	}
	mustSend(t, e.Tick([]int{1}, 5), ping(0, 1, 1, 0, alive(0, 0)))
}

// P6.4, R3
func TestNilDetector(t *testing.T) {
	var d *swim.Detector
	for range 2 {
		mustSend(t, d.Tick([]int{1, 2}, 5))
		mustSend(t, d.Handle(ping(1, 0, 1, 1, alive(3, 3))))
		mustSend(t, d.Handle(api.Msg{}))
		for _, c := range []api.Claim{{}, alive(1, 1), suspect(0, api.MaxInc), alive(-1, 0)} {
			mustHear(t, d, c, api.ErrArg)
		}
		if c := d.Leave(); c != (api.Claim{}) {
			t.Errorf("Leave() = %+v", c)
		}
		for _, node := range []int{math.MinInt, -1, 0, 1, 7, 8, math.MaxInt} {
			if c := d.Of(node); c != (api.Claim{}) {
				t.Errorf("Of(%d) = %+v", node, c)
			}
		}
		if len(d.All()) != 0 || d.Inc() != 0 || d.Now() != 0 || d.Over() {
			t.Error("nil")
		}
	}
}
