package give_test

import (
	"maps"
	"math"
	"math/rand"
	"reflect"
	"slices"
	"strconv"
	"strings"
	"sync"
	"testing"

	"starling/api"
	"starling/bag"
	"starling/fold"
	"starling/give"
	"starling/ledger"
	"starling/spot"
	"starling/vault"
)

const (
	nodes  = 8
	parts  = 16
	maxNum = 1000000
	resend = 2
	window = 4

	// Of the giver of most tests:
	self  = 2
	home  = 6
	epoch = 9
	to    = 5
)

// begun is a giver that was told nothing yet.
func begun(t *testing.T) *give.Giver {
	t.Helper()
	g := give.New(self, home, epoch, to)
	if g == nil {
		t.Fatal("there is no giver")
	}
	return g
}

// empty is a vault without keys.
func empty() *vault.Vault {
	return vault.Open(ledger.New(3000))
}

// put writes data under each of keys, for somebody who knows nothing.
func put(t *testing.T, v *vault.Vault, data string, keys ...string) {
	t.Helper()
	for _, key := range keys {
		if _, errno := v.Put(self, key, api.Vector{}, data); errno != api.OK {
			t.Errorf("Put(%q) = %d", key, errno)
		}
	}
}

// holding is a vault with these keys, put from the last to the first, and with
// keys of all other parts around them.
func holding(t *testing.T, keys ...string) *vault.Vault {
	t.Helper()
	v := empty()
	for i := range 60 {
		key := string(rune('a'+i%26)) + strconv.Itoa(i)
		if spot.Of(key) != home {
			put(t, v, "other", key)
		}
	}
	for _, key := range slices.Backward(keys) {
		put(t, v, "of "+key, key)
	}
	return v
}

// of is n keys of a part, which begin with start, in ascending order.
func of(part, n int, start string) []string {
	var l []string
	for i := 0; len(l) < n; i++ {
		if key := start + strconv.Itoa(i); spot.Of(key) == part {
			l = append(l, key)
		}
	}
	slices.Sort(l)
	return l
}

// wrong is what belongs to no part.
func wrong() []string {
	return []string{"", strings.Repeat("k", 33), strings.Repeat("\x00", 33), strings.Repeat("é", 17), strings.Repeat("k", 1<<16+3)}
}

// given is the message with which a key is given.
func given(seq int, key string, b api.Bag) api.Msg {
	return api.Msg{Kind: api.MGive, From: self, To: to, Part: home, Epoch: epoch, Seq: seq, Key: key, Bag: b}
}

// end is the message that everything was given.
func end() api.Msg {
	return api.Msg{Kind: api.MEnd, From: self, To: to, Part: home, Epoch: epoch}
}

// got is the answer to a message with which a key was given.
func got(m api.Msg) api.Msg {
	m.Kind, m.From, m.To = api.MGot, m.To, m.From
	return m
}

// ended is the answer to the end.
func ended() api.Msg {
	return api.Msg{Kind: api.MEnded, From: to, To: self, Part: home, Epoch: epoch}
}

// same reports whether both messages are equal in everything.
func same(a, b api.Msg) bool {
	isSame := bag.Same(a.Bag, b.Bag)
	a.Bag, b.Bag = api.Bag{}, api.Bag{}
	return isSame && reflect.DeepEqual(a, b)
}

// brief tells of messages what they are, to be read.
func brief(msgs []api.Msg) string {
	s := ""
	for _, m := range msgs {
		s += " " + strconv.Itoa(m.Kind) + ":" + strconv.Itoa(m.Seq) + ":" + m.Key + ":" + strings.Join(bag.Texts(m.Bag), ",")
	}
	return s
}

// mustTick fails unless Tick returns these messages, and returns them.
func mustTick(t *testing.T, g *give.Giver, v *vault.Vault, want ...api.Msg) []api.Msg {
	t.Helper()
	msgs := g.Tick(v)
	if !slices.EqualFunc(msgs, want, same) {
		t.Errorf("Tick =%s, and not%s", brief(msgs), brief(want))
	}
	return msgs
}

func mustOut(t *testing.T, g *give.Giver, want ...int) {
	t.Helper()
	if seqs := g.Out(); !slices.Equal(seqs, want) {
		t.Errorf("Out() = %v, and not %v", seqs, want)
	}
}

func mustWrote(t *testing.T, g *give.Giver, key string, want bool) {
	t.Helper()
	if is := g.Wrote(key); is != want {
		t.Errorf("Wrote(%q) = %v", key, is)
	}
}

// mustGot answers all of msgs.
func mustGot(t *testing.T, g *give.Giver, msgs ...api.Msg) {
	t.Helper()
	for _, m := range msgs {
		if !g.Got(got(m)) {
			t.Errorf("Got =%s is false", brief([]api.Msg{m}))
		}
	}
}

func mustEnded(t *testing.T, g *give.Giver, v *vault.Vault, want bool) {
	t.Helper()
	if is := g.Ended(ended(), v); is != want {
		t.Errorf("Ended = %v", is)
	}
}

// now is the messages that give keys as they are now, with Seqs from seq on.
func now(v *vault.Vault, seq int, keys ...string) []api.Msg {
	var msgs []api.Msg
	for i, key := range keys {
		msgs = append(msgs, given(seq+i, key, v.Bag(key)))
	}
	return msgs
}

// P20.2: the example.
func TestExample(t *testing.T) {
	mustTick(t, begun(t), empty(), end())
}

// P20.1
func TestNew(t *testing.T) {
	for self := range nodes {
		for to := range nodes {
			for part := range parts {
				for _, epoch := range []int{1, 2, 500000, maxNum - 1, maxNum} {
					g := give.New(self, part, epoch, to)
					if (g == nil) != (self == to) {
						t.Errorf("New(%d, %d, %d, %d) = %v", self, part, epoch, to, g)
					}
					if g == nil {
						continue
					}
					if g.To() != to || g.Epoch() != epoch || len(g.Out()) != 0 {
						t.Errorf("New(%d, %d, %d, %d) has %d, %d, %v", self, part, epoch, to, g.To(), g.Epoch(), g.Out())
					}
				}
			}
		}
	}
}

// P20.1: one thing that may not be is enough.
func TestNewOfWhatMayNotBe(t *testing.T) {
	far := []int{math.MinInt, -1 << 32, -1, 1 << 32, 1<<32 + 1, math.MaxInt}
	for _, c := range []struct {
		make  func(n int) *give.Giver
		wrong []int
	}{
		{func(n int) *give.Giver { return give.New(n, home, epoch, to) }, append(far, nodes, nodes+1, 1<<8+self)},
		{func(n int) *give.Giver { return give.New(self, home, epoch, n) }, append(far, nodes, nodes+1, 1<<8+to)},
		{func(n int) *give.Giver { return give.New(n, home, epoch, n) }, append(far, 0, self, to, nodes-1, nodes)},
		{func(n int) *give.Giver { return give.New(self, n, epoch, to) }, append(far, parts, parts+1, 1<<8+home)},
		{func(n int) *give.Giver { return give.New(self, home, n, to) }, append(far, 0, -epoch, maxNum+1)},
	} {
		for _, n := range c.wrong {
			if g := c.make(n); g != nil {
				t.Errorf("there is a giver with %d: %v", n, g)
			}
		}
	}
}

// P20.2: keys are given in order, a window of them at most, and each answer makes
// room for one more.
func TestTickGivesTheKeysInOrder(t *testing.T) {
	k := of(home, 11, "k")
	v, g := holding(t, k...), begun(t)
	first := mustTick(t, g, v, now(v, 1, k[:4]...)...)
	mustOut(t, g, 1, 2, 3, 4)
	mustGot(t, g, first...)
	mustOut(t, g)
	second := mustTick(t, g, v, now(v, 5, k[4:8]...)...)
	mustOut(t, g, 5, 6, 7, 8)
	mustGot(t, g, second[1], second[3])
	mustOut(t, g, 5, 7)
	third := mustTick(t, g, v, now(v, 9, k[8:10]...)...)
	mustOut(t, g, 5, 7, 9, 10)
	mustGot(t, g, second[2], second[0])
	mustOut(t, g, 9, 10)
	fourth := mustTick(t, g, v, now(v, 11, k[10])...)
	mustOut(t, g, 9, 10, 11)
	mustGot(t, g, fourth[0], third[1], third[0])
	mustTick(t, g, v, end())
	mustOut(t, g)
}

// P20.2: of its own part alone, with the numbers of its own alone.
func TestTickGivesItsPart(t *testing.T) {
	v := empty()
	for i := range 100 {
		put(t, v, "x", "k"+strconv.Itoa(i))
	}
	for part := range parts {
		from, to, epoch := part%nodes, (part+1+part/nodes)%nodes, maxNum-part
		g := give.New(from, part, epoch, to)
		var keys []string
		for range 100 {
			msgs := g.Tick(v)
			for _, m := range msgs {
				if m.From != from || m.To != to || m.Part != part || m.Epoch != epoch {
					t.Errorf("part %d is given by %v", part, m)
				}
				if m.Kind == api.MGive {
					keys = append(keys, m.Key)
					mustGot(t, g, m)
				}
			}
		}
		if !slices.Equal(keys, v.Keys(part)) || len(keys) == 0 {
			t.Errorf("of part %d %q was given", part, keys)
		}
	}
}

// P20.2: what is out is sent again every two ticks, until it is answered.
func TestTickSendsAgain(t *testing.T) {
	k := of(home, 3, "k")
	v, g := holding(t, k...), begun(t)
	first := mustTick(t, g, v, now(v, 1, k...)...)
	for range 5 {
		for range resend - 1 {
			mustTick(t, g, v)
		}
		mustTick(t, g, v, first...)
		mustOut(t, g, 1, 2, 3)
	}
	mustGot(t, g, first[0], first[2])
	mustTick(t, g, v)
	mustTick(t, g, v, first[1])
	mustTick(t, g, v)
	mustGot(t, g, first[1])
	mustTick(t, g, v, end())
}

// P20.2: each from the tick on at which it was sent last itself, what is sent
// again ahead of what is new.
func TestTickSendsEachAgainInItsTime(t *testing.T) {
	k := of(home, 8, "k")
	v, g := holding(t, k[2:4]...), begun(t)
	first := mustTick(t, g, v, now(v, 1, k[2:4]...)...)
	put(t, v, "x", k[5])
	second := mustTick(t, g, v, now(v, 3, k[5])...)
	third := mustTick(t, g, v, first...)
	put(t, v, "x", k[0], k[6], k[7])
	mustWrote(t, g, k[0], true)
	fourth := mustTick(t, g, v, second[0], given(4, k[0], v.Bag(k[0])))
	mustOut(t, g, 1, 2, 3, 4)
	mustTick(t, g, v, third...)
	mustGot(t, g, fourth[1], first[0])
	sixth := mustTick(t, g, v, second[0], given(5, k[6], v.Bag(k[6])), given(6, k[7], v.Bag(k[7])))
	mustOut(t, g, 2, 3, 5, 6)
	mustTick(t, g, v, first[1])
	mustTick(t, g, v, sixth...)
}

// P20.2: in order of Seq, in whatever order the others were answered.
func TestTickSendsAgainInOrder(t *testing.T) {
	k := of(home, 60, "k")
	r := rand.New(rand.NewSource(1))
	several := 0
	for range 100 {
		v, g := holding(t, k...), begun(t)
		latest, out := 0, map[int]api.Msg{}
		for range 12 {
			var again []int
			for _, m := range g.Tick(v) {
				if m.Seq <= latest {
					again = append(again, m.Seq)
				}
				latest = max(latest, m.Seq)
				out[m.Seq] = m
			}
			if !slices.IsSorted(again) {
				t.Errorf("it sends again %v", again)
			}
			if len(again) > 1 {
				several++
			}
			for seq := range latest + 1 {
				if m, is := out[seq]; is && r.Intn(3) == 0 {
					mustGot(t, g, m)
					delete(out, seq)
				}
			}
			mustOut(t, g, slices.Sorted(maps.Keys(out))...)
		}
	}
	if several < 200 {
		t.Errorf("only %d times several are sent again", several)
	}
}

// P20.2: with the bag that it had, though the key has another one now, or is gone.
func TestTickSendsAgainWhatWasSent(t *testing.T) {
	k := of(home, 3, "k")
	v, g := holding(t, k...), begun(t)
	first := mustTick(t, g, v, now(v, 1, k...)...)
	put(t, v, "new", k[1])
	mustTick(t, g, v)
	mustTick(t, g, v, first...)
	v.Drop(home)
	mustTick(t, g, v)
	mustTick(t, g, v, first...)
	mustOut(t, g, 1, 2, 3)
	mustGot(t, g, first...)
	mustTick(t, g, v, end())
}

// P20.2: a key that was written since is out beside the message that it was given
// with before, with the next Seq and the bag of the moment at which it is sent.
func TestTickGivesAKeyTwice(t *testing.T) {
	k := of(home, 4, "k")
	v, g := holding(t, k...), begun(t)
	v.Drop(home)
	put(t, v, "a", k[:2]...)
	first := mustTick(t, g, v, now(v, 1, k[:2]...)...)
	put(t, v, "b", k[0])
	mustWrote(t, g, k[0], true)
	mustWrote(t, g, k[0], true)
	put(t, v, "c", k[0])
	second := mustTick(t, g, v, now(v, 3, k[0])...)
	if !slices.Equal(bag.Texts(second[0].Bag), []string{"a", "b", "c"}) {
		t.Errorf("Tick =%s", brief(second))
	}
	mustOut(t, g, 1, 2, 3)
	mustTick(t, g, v, first...)
	mustGot(t, g, second[0])
	mustOut(t, g, 1, 2)
	mustGot(t, g, first[0])
	mustOut(t, g, 2)
	mustTick(t, g, v)
}

// P20.2: while the window is full, nothing new is sent, and what is due stays due.
func TestTickWithAFullWindow(t *testing.T) {
	k := of(home, 6, "k")
	v, g := holding(t, k...), begun(t)
	first := mustTick(t, g, v, now(v, 1, k[:4]...)...)
	put(t, v, "new", k[3], k[1])
	mustWrote(t, g, k[3], true)
	mustWrote(t, g, k[1], true)
	for range 3 {
		mustTick(t, g, v)
		mustTick(t, g, v, first...)
	}
	mustGot(t, g, first[2])
	mustTick(t, g, v, now(v, 5, k[1])...)
	mustOut(t, g, 1, 2, 4, 5)
	mustGot(t, g, first[0], first[1], first[3])
	mustTick(t, g, v, now(v, 6, k[3], k[4], k[5])...)
	mustOut(t, g, 5, 6, 7, 8)
}

// P20.2: keys that come while it goes on are given in their order, and those that
// were passed only if the giver is told.
func TestTickOfNewKeys(t *testing.T) {
	k := of(home, 5, "k")
	v, g := holding(t, k[1], k[3]), begun(t)
	mustTick(t, g, v, now(v, 1, k[1], k[3])...)
	put(t, v, "x", k[0], k[2], k[4])
	mustTick(t, g, v, now(v, 3, k[4])...)
	mustWrote(t, g, k[2], true)
	mustWrote(t, g, k[0], true)
	third := g.Tick(v)
	if len(third) != 3 || !same(third[2], given(4, k[0], v.Bag(k[0]))) {
		t.Errorf("Tick =%s", brief(third))
	}
	mustOut(t, g, 1, 2, 3, 4)
	mustGot(t, g, third...)
	mustTick(t, g, v, given(3, k[4], v.Bag(k[4])), given(5, k[2], v.Bag(k[2])))
	mustOut(t, g, 3, 5)
}

// P20.2: a key with an empty bag is one, too, and so is one of a single byte or of
// as many as may be.
func TestTickOfOddKeys(t *testing.T) {
	var k []string
	for _, start := range []string{"", strings.Repeat("\x00", 31), strings.Repeat("\xff", 31)} {
		for b := range 256 {
			if key := start + string([]byte{byte(b)}); spot.Of(key) == home {
				k = append(k, key)
			}
		}
	}
	slices.Sort(k)
	l := ledger.New(300)
	for _, key := range k {
		l.Write(api.Deed{Kind: api.DBag, Key: key})
	}
	v, g := vault.Open(l), begun(t)
	for i, key := range k {
		if i%window != 0 {
			continue
		}
		next := min(i+window, len(k))
		mustGot(t, g, mustTick(t, g, v, now(v, i+1, append([]string{key}, k[i+1:next]...)...)...)...)
	}
	mustTick(t, g, v, end())
	if len(k) < 20 {
		t.Errorf("there are %d keys", len(k))
	}
}

// P20.2: the end is sent at each tick from the answer to the last message on.
func TestTickSendsTheEnd(t *testing.T) {
	k := of(home, 2, "k")
	v, g := holding(t, k...), begun(t)
	first := mustTick(t, g, v, now(v, 1, k...)...)
	mustGot(t, g, first[1])
	mustTick(t, g, v)
	mustTick(t, g, v, first[0])
	mustGot(t, g, first[0])
	for range 7 {
		mustTick(t, g, v, end())
		mustOut(t, g)
	}
	mustEnded(t, g, v, true)
	mustTick(t, g, v, end())
	for range 3 {
		mustTick(t, begun(t), holding(t), end())
	}
}

// P20.2: whatever is left to give keeps the end away, be the giver told or not.
func TestTickWithoutTheEnd(t *testing.T) {
	k := of(home, 3, "k")
	v, g := holding(t, k[:2]...), begun(t)
	mustGot(t, g, mustTick(t, g, v, now(v, 1, k[:2]...)...)...)
	mustTick(t, g, v, end())
	put(t, v, "x", k[2])
	mustGot(t, g, mustTick(t, g, v, now(v, 3, k[2])...)...)
	mustTick(t, g, v, end())
	put(t, v, "x", k[1])
	mustTick(t, g, v, end())
	mustWrote(t, g, k[1], true)
	last := mustTick(t, g, v, now(v, 4, k[1])...)
	mustTick(t, g, v)
	mustTick(t, g, v, last...)
	mustGot(t, g, last...)
	mustTick(t, g, v, end())
}

// P20.2: due keys that the vault does not have are nothing that is left.
func TestTickOfDueKeysThatAreGone(t *testing.T) {
	k := of(home, 3, "k")
	v, g := holding(t, k...), begun(t)
	mustGot(t, g, mustTick(t, g, v, now(v, 1, k...)...)...)
	mustWrote(t, g, k[0], true)
	mustWrote(t, g, k[2], true)
	v.Drop(home)
	mustTick(t, g, v, end())
	mustEnded(t, g, v, true)
	// They were due until then, and are not any more.
	mustTick(t, g, holding(t, k...), end())
}

// P20.2: without a vault nothing happens, not even a tick.
func TestTickOfNoVault(t *testing.T) {
	k := of(home, 2, "k")
	v, g := holding(t, k...), begun(t)
	for range 5 {
		mustTick(t, g, nil)
	}
	mustEnded(t, g, nil, false)
	first := mustTick(t, g, v, now(v, 1, k...)...)
	for range 5 {
		mustTick(t, g, nil)
	}
	mustOut(t, g, 1, 2)
	mustTick(t, g, v)
	mustTick(t, g, nil)
	mustTick(t, g, v, first...)
	mustGot(t, g, first...)
	mustWrote(t, g, k[1], true)
	mustTick(t, g, nil)
	mustEnded(t, g, nil, false)
	mustTick(t, g, v, now(v, 3, k[1])...)
}

// P20.3: Wrote returns what Back does of a cursor that passed the same keys.
func TestWrote(t *testing.T) {
	k := of(home, 14, "k")
	for ticks := range 5 {
		v, g, c := holding(t, k...), begun(t), fold.New(home)
		for range ticks {
			mustGot(t, g, g.Tick(v)...)
			for range window {
				c.Next(v)
			}
		}
		for _, key := range slices.Concat(k, of(home+1, 3, "a"), wrong()) {
			mustWrote(t, g, key, c.Back(key))
		}
		if due := c.Due(); !slices.Equal(due, k[:min(ticks*window, len(k))]) {
			t.Errorf("%q is due", due)
		}
	}
}

// P20.3: before the first key nothing was passed, also of a part without keys.
func TestWroteOfABegunGiver(t *testing.T) {
	k := of(home, 3, "k")
	g := begun(t)
	for _, key := range slices.Concat(k, of(0, 3, "k"), wrong()) {
		mustWrote(t, g, key, false)
	}
	mustTick(t, g, empty(), end())
	for _, key := range k {
		mustWrote(t, g, key, false)
	}
}

// P20.3: after a key of the part the giver ends no more, whatever the result is,
// until it sends the end again; other keys change nothing.
func TestWroteTakesTheEndBack(t *testing.T) {
	k := of(home, 3, "k")
	v := holding(t, k[1])
	for _, c := range []struct {
		key    string
		result bool
	}{{k[0], true}, {k[2], false}} {
		g := begun(t)
		mustGot(t, g, mustTick(t, g, v, now(v, 1, k[1])...)...)
		mustTick(t, g, v, end())
		for _, key := range slices.Concat(wrong(), of(home-1, 3, "k"), of(home+1, 3, "a")) {
			mustWrote(t, g, key, false)
			mustEnded(t, g, v, true)
		}
		// The key is not there, so that only the flag can keep Ended from being true.
		mustWrote(t, g, c.key, c.result)
		mustEnded(t, g, v, false)
		mustEnded(t, g, nil, false)
		mustTick(t, g, v, end())
		mustEnded(t, g, v, true)
	}
	for part := range parts {
		g := give.New(self, part, epoch, to)
		m := ended()
		m.Part = part
		g.Tick(empty())
		for other := range parts {
			g.Wrote(of(other, 1, "k")[0])
			if is := g.Ended(m, empty()); is != (other < part) {
				t.Errorf("Ended of part %d after a key of %d = %v", part, other, is)
			}
		}
	}
}

// P20.3: one thing that differs is enough, and changes nothing.
func TestGot(t *testing.T) {
	k := of(home, 4, "k")
	v, g := holding(t, k...), begun(t)
	first := mustTick(t, g, v, now(v, 1, k...)...)
	for i, m := range first {
		for j, change := range differing(k[(i+1)%4]) {
			bad := got(m)
			bad.Bag.Values = slices.Clone(bad.Bag.Values)
			change(&bad)
			if g.Got(bad) {
				t.Errorf("change %d is got", j)
			}
		}
		bad := got(m)
		bad.Seq = 1 + (i+1)%4
		if g.Got(bad) || g.Got(m) {
			t.Error("what is no answer is got")
		}
		mustOut(t, g, 1, 2, 3, 4)
	}
	for _, i := range []int{2, 0, 3, 1} {
		mustGot(t, g, first[i])
		if g.Got(got(first[i])) {
			t.Errorf("%d is got twice", first[i].Seq)
		}
	}
	mustOut(t, g)
}

// differing is what can be wrong with an answer, beside what another one says.
func differing(key string) []func(m *api.Msg) {
	var l []func(m *api.Msg)
	for _, n := range []int{math.MinInt, -1, 0, api.MPing, api.MAck, api.MPingReq, api.MRing, api.MGive, api.MEnd, api.MEnded, 9, math.MaxInt} {
		l = append(l, func(m *api.Msg) { m.Kind = n })
	}
	for _, by := range []int{math.MinInt, -1, 1, 1 << 8, 1 << 32} {
		l = append(l,
			func(m *api.Msg) { m.From += by },
			func(m *api.Msg) { m.To += by },
			func(m *api.Msg) { m.Part += by },
			func(m *api.Msg) { m.Epoch += by },
			func(m *api.Msg) { m.Bag.Known[0] += by },
			func(m *api.Msg) { m.Bag.Known[nodes-1] += by },
			func(m *api.Msg) { m.Bag.Values[0].Dot.Node += by },
			func(m *api.Msg) { m.Bag.Values[0].Dot.N += by })
	}
	for _, seq := range []int{math.MinInt, -1, 0, 5, 6, 1 << 32, 1<<32 + 1, math.MaxInt} {
		l = append(l, func(m *api.Msg) { m.Seq = seq })
	}
	return append(l,
		func(m *api.Msg) { m.From, m.To = m.To, m.From },
		func(m *api.Msg) { m.To = m.From },
		func(m *api.Msg) { m.Key = key },
		func(m *api.Msg) { m.Key = "" },
		func(m *api.Msg) { m.Key += "\x00" },
		func(m *api.Msg) { m.Bag = api.Bag{} },
		func(m *api.Msg) { m.Bag.Values = nil },
		func(m *api.Msg) { m.Bag.Values[0].Data = "" },
		func(m *api.Msg) { m.Bag.Values = append(m.Bag.Values, api.Value{Dot: api.Dot{Node: 7, N: 1}}) })
}

// P20.3: no and an empty list of values are one, and what else a message may carry
// is not looked at.
func TestGotOfAnEmptyBag(t *testing.T) {
	k := of(home, 1, "k")[0]
	l := ledger.New(9)
	l.Write(api.Deed{Kind: api.DBag, Key: k})
	g := begun(t)
	m := mustTick(t, g, vault.Open(l), given(1, k, api.Bag{}))[0]
	m.Bag.Values = []api.Value{}
	m.For, m.About, m.Claims = 3, 4, []api.Claim{{Node: 1}}
	m.Ring.Parts[3].Epoch = -1
	mustGot(t, g, m)
	mustOut(t, g)
}

// P20.3: an answer to what was sent before a write does not answer what was sent
// after it.
func TestGotOfAnotherBag(t *testing.T) {
	k := of(home, 1, "k")
	v, g := holding(t, k...), begun(t)
	old := mustTick(t, g, v, now(v, 1, k...)...)[0]
	put(t, v, "new", k...)
	mustWrote(t, g, k[0], true)
	next := mustTick(t, g, v, now(v, 2, k...)...)[0]
	mixed := got(next)
	mixed.Bag = old.Bag
	if g.Got(mixed) {
		t.Error("the old bag with the new Seq is got")
	}
	mixed.Seq, mixed.Bag = old.Seq, next.Bag
	if g.Got(mixed) {
		t.Error("the new bag with the old Seq is got")
	}
	mustOut(t, g, 1, 2)
	mustGot(t, g, old)
	mustOut(t, g, 2)
	mustGot(t, g, next)
	mustOut(t, g)
}

// P20.3: a giver after a crash begins with Seq 1 again, and is not misled by
// answers to what the one before it sent.
func TestGotOfAnEarlierGiver(t *testing.T) {
	k := of(home, 3, "k")
	v, g := holding(t, k...), begun(t)
	early := mustTick(t, g, v, now(v, 1, k...)...)
	put(t, v, "new", k[1])
	lower := of(home, 1, "a")[0]
	put(t, v, "new", lower)
	g = begun(t)
	mustTick(t, g, v, now(v, 1, append([]string{lower}, k...)...)...)
	for _, m := range early {
		if g.Got(got(m)) {
			t.Errorf("Got =%s", brief([]api.Msg{m}))
		}
	}
	mustOut(t, g, 1, 2, 3, 4)
}

// P20.3: one thing that differs is enough, and it changes nothing.
func TestEnded(t *testing.T) {
	v, g := holding(t), begun(t)
	mustEnded(t, g, v, false)
	mustTick(t, g, v, end())
	for i, change := range differing("k") {
		m := ended()
		m.Bag.Values = []api.Value{{}}
		change(&m)
		// The rest is not looked at.
		want := m.Kind == api.MEnded && m.From == to && m.To == self && m.Part == home && m.Epoch == epoch
		if is := g.Ended(m, v); is != want {
			t.Errorf("Ended with change %d = %v", i, is)
		}
	}
	for _, kind := range []int{api.MEnd, api.MGot} {
		m := ended()
		m.Kind = kind
		if g.Ended(m, v) {
			t.Errorf("Ended of kind %d", kind)
		}
	}
	for range 3 {
		mustEnded(t, g, v, true)
		mustTick(t, g, v, end())
	}
}

// P20.3: not before the end was sent, nor while a message is out, nor while the
// vault has something that is left to give.
func TestEndedTooEarly(t *testing.T) {
	k := of(home, 3, "k")
	v, g := holding(t, k[:2]...), begun(t)
	first := mustTick(t, g, v, now(v, 1, k[:2]...)...)
	mustEnded(t, g, v, false)
	mustGot(t, g, first...)
	mustEnded(t, g, v, false)
	mustTick(t, g, v, end())
	mustEnded(t, g, v, true)
	put(t, v, "x", k[2])
	mustEnded(t, g, v, false)
	mustEnded(t, g, holding(t, k[:2]...), true)
	mustEnded(t, g, nil, true)
	last := mustTick(t, g, v, now(v, 3, k[2])...)
	mustEnded(t, g, v, false)
	mustEnded(t, g, nil, false)
	mustGot(t, g, last...)
	// It was not told of the write, so that it ends still.
	mustEnded(t, g, v, true)
	mustWrote(t, g, k[0], true)
	mustEnded(t, g, v, false)
	mustEnded(t, g, empty(), false)
	mustGot(t, g, mustTick(t, g, v, now(v, 4, k[0])...)...)
	mustEnded(t, g, v, false)
	mustTick(t, g, v, end())
	mustEnded(t, g, v, true)
}

// P20.1 to P20.3, R3: of a nil giver nothing is told.
func TestNoGiver(t *testing.T) {
	k := of(home, 2, "k")
	var g *give.Giver
	for _, v := range []*vault.Vault{nil, {}, empty(), holding(t, k...)} {
		mustTick(t, g, v)
		mustOut(t, g)
		mustEnded(t, g, v, false)
		for _, key := range append(wrong(), k...) {
			mustWrote(t, g, key, false)
		}
		for _, m := range []api.Msg{{}, ended(), got(given(1, k[0], v.Bag(k[0])))} {
			if g.Got(m) || g.Ended(m, v) {
				t.Errorf("a nil giver takes %v", m)
			}
		}
	}
	if g.To() != 0 || g.Epoch() != 0 {
		t.Errorf("it has %d, %d", g.To(), g.Epoch())
	}
}

// R3: a giver that New did not make, and a vault that Open did not make, end too.
func TestZeroValues(t *testing.T) {
	var zero give.Giver
	for _, v := range []*vault.Vault{nil, {}, holding(t, of(0, 5, "k")...)} {
		for range 3 {
			zero.Tick(v)
			zero.Got(api.Msg{Kind: api.MGot})
			zero.Ended(api.Msg{Kind: api.MEnded}, v)
			for _, key := range append(wrong(), of(0, 2, "k")...) {
				zero.Wrote(key)
			}
			zero.Out()
		}
	}
	mustTick(t, begun(t), &vault.Vault{}, end())
}

// P20.2, R6: a giver only reads the vault.
func TestVaultStays(t *testing.T) {
	k := of(home, 6, "k")
	l := ledger.New(9)
	v := vault.Open(l)
	put(t, v, "x", k...)
	g := begun(t)
	for range 20 {
		for _, m := range g.Tick(v) {
			g.Got(got(m))
		}
		g.Wrote(k[1])
		g.Ended(ended(), v)
	}
	if l.Len() != 6 || l.Sure() != 0 || v.Dots() != 6 || !slices.Equal(v.Keys(home), k) {
		t.Errorf("there are %d deeds, %d of them sure, and the keys %q", l.Len(), l.Sure(), v.Keys(home))
	}
}

// overwrite changes l, and the memory behind it.
func overwrite[T any](l []T, x T) {
	l = l[:cap(l)]
	for i := range l {
		l[i] = x
	}
}

// P20.1, P20.2, R2: results are memory of the caller, and what was sent can be
// sent again, whatever becomes of it.
func TestResultsAreNewMemory(t *testing.T) {
	k := of(home, 6, "k")
	v, g := holding(t, k...), begun(t)
	put(t, v, "beside", k...)
	want := now(v, 1, k[:4]...)
	for range 4 {
		msgs := mustTick(t, g, v, want...)
		for _, m := range msgs {
			overwrite(m.Bag.Values, api.Value{Data: "spoiled"})
		}
		overwrite(msgs, api.Msg{Kind: 99})
		overwrite(g.Out(), 77)
		mustOut(t, g, 1, 2, 3, 4)
		overwrite(mustTick(t, g, v), api.Msg{})
		for _, key := range k {
			if texts := bag.Texts(v.Bag(key)); !slices.Equal(texts, []string{"of " + key, "beside"}) {
				t.Errorf("of %q there is %q", key, texts)
			}
		}
	}
	out := g.Out()
	mustGot(t, g, want[1])
	if !slices.Equal(out, []int{1, 2, 3, 4}) {
		t.Errorf("what Out returned became %v", out)
	}
}

// P20.3, R2: an answer is neither changed nor kept, nor is what stands beyond its
// lists looked at.
func TestArgumentsStay(t *testing.T) {
	k := of(home, 2, "k")
	v, g := holding(t, k...), begun(t)
	first := mustTick(t, g, v, now(v, 1, k...)...)
	m := got(first[0])
	long := append(slices.Clone(m.Bag.Values), api.Value{Data: "beyond"})
	m.Bag.Values = long[:1]
	before := slices.Clone(long)
	if !g.Got(m) || !slices.Equal(long, before) {
		t.Errorf("the answer became %v", long)
	}
	overwrite(long, api.Value{})
	mustTick(t, g, v)
	mustTick(t, g, v, first[1])
}

// P20.1, R6: givers have nothing to do with one another.
func TestGiversAreApart(t *testing.T) {
	k := of(home, 6, "k")
	v := holding(t, k...)
	g, h := begun(t), begun(t)
	mustGot(t, g, mustTick(t, g, v, now(v, 1, k[:4]...)...)...)
	mustOut(t, h)
	mustTick(t, g, v, now(v, 5, k[4:]...)...)
	mustTick(t, h, v, now(v, 1, k[:4]...)...)
	mustWrote(t, g, k[4], true)
	mustWrote(t, h, k[4], false)
	mustOut(t, g, 5, 6)
	mustOut(t, h, 1, 2, 3, 4)
	var all sync.WaitGroup
	for part := range parts {
		own := of(part, 20, "w")
		all.Go(func() {
			v, g := empty(), give.New(part%nodes, part, epoch, (part+1)%nodes)
			put(t, v, "x", own...)
			for range len(own) / window {
				mustGot(t, g, g.Tick(v)...)
			}
			g.Tick(v)
			m := ended()
			m.From, m.To, m.Part = (part+1)%nodes, part%nodes, part
			if !g.Ended(m, v) {
				t.Errorf("part %d did not go over", part)
			}
		})
	}
	all.Wait()
}

// plain is a giver as the chapter tells it, one sentence after the other.
type plain struct {
	cursor *fold.Cursor
	out    map[int]api.Msg
	sentAt map[int]int
	seq    int
	ticks  int
	ends   bool
}

func (p *plain) tick(v *vault.Vault) []api.Msg {
	p.ticks++
	var msgs []api.Msg
	for _, seq := range slices.Sorted(maps.Keys(p.out)) {
		if p.sentAt[seq]+resend <= p.ticks {
			p.sentAt[seq] = p.ticks
			msgs = append(msgs, p.out[seq])
		}
	}
	for len(p.out) < window {
		pair, ok := p.cursor.Next(v)
		if !ok {
			break
		}
		p.seq++
		p.out[p.seq], p.sentAt[p.seq] = given(p.seq, pair.Key, pair.Bag), p.ticks
		msgs = append(msgs, p.out[p.seq])
	}
	if len(p.out) == 0 && p.cursor.Over(v) {
		p.ends = true
		msgs = append(msgs, end())
	}
	return msgs
}

func (p *plain) wrote(key string) bool {
	if len(key) >= 1 && len(key) <= 32 && spot.Of(key) == home {
		p.ends = false
	}
	return p.cursor.Back(key)
}

func (p *plain) got(m api.Msg) bool {
	sent, is := p.out[m.Seq]
	if !is || !same(got(sent), m) {
		return false
	}
	delete(p.out, m.Seq)
	return true
}

func (p *plain) ended(v *vault.Vault) bool {
	return p.ends && len(p.out) == 0 && p.cursor.Over(v)
}

// P20.1 to P20.3: every call returns what the chapter says, of a vault that
// changes.
func TestDrawnCalls(t *testing.T) {
	r := rand.New(rand.NewSource(2))
	sent, gots, ends := 0, 0, 0
	for range 400 {
		keys := append(of(home, 1+r.Intn(12), "k"), "", strings.Repeat("k", 33), of(home+1, 1, "a")[0])
		v, g := empty(), begun(t)
		p := &plain{cursor: fold.New(home), out: map[int]api.Msg{}, sentAt: map[int]int{}}
		var all []api.Msg
		writes := r.Intn(200)
		for step := range 200 {
			switch key := keys[r.Intn(len(keys))]; r.Intn(12) {
			case 0, 1:
				if step < writes {
					v.Put(self, key, v.Bag(key).Known, strconv.Itoa(step))
					mustWrote(t, g, key, p.wrote(key))
				}
			case 2:
				// The giver is not told of this.
				if step < writes {
					v.Put(self, key, api.Vector{}, "beside")
				}
				if step < writes && r.Intn(20) == 0 {
					v.Drop(home)
				}
			case 3:
				mustWrote(t, g, key, p.wrote(key))
			case 4, 5, 6, 7, 8:
				if len(all) > 0 {
					m := got(all[max(0, len(all)-1-r.Intn(8))])
					want := p.got(m)
					if is := g.Got(m); is != want {
						t.Errorf("Got = %v", is)
					}
					if want {
						gots++
					}
				}
			default:
				want := p.tick(v)
				mustTick(t, g, v, want...)
				for _, m := range want {
					if m.Kind == api.MGive {
						all = append(all, m)
						sent++
					}
				}
			}
			mustOut(t, g, slices.Sorted(maps.Keys(p.out))...)
			want := p.ended(v)
			mustEnded(t, g, v, want)
			if want {
				ends++
			}
			if t.Failed() {
				return
			}
		}
	}
	if sent < 10000 || gots < 3000 || ends < 300 {
		t.Errorf("%d were sent, %d got, and %d times it was over", sent, gots, ends)
	}
}

// wire carries messages, and loses, doubles and reorders them.
type wire struct {
	r    *rand.Rand
	loss int // in a hundred
	way  []api.Msg
}

func (w *wire) send(msgs ...api.Msg) {
	for _, m := range msgs {
		for range 1 + w.r.Intn(2) {
			if w.r.Intn(100) >= w.loss {
				w.way = append(w.way, m)
			}
		}
	}
}

// take takes one of the messages.
func (w *wire) take() (api.Msg, bool) {
	if len(w.way) == 0 {
		return api.Msg{}, false
	}
	i := w.r.Intn(len(w.way))
	m := w.way[i]
	w.way = slices.Delete(w.way, i, i+1)
	return m, true
}

// answer is what a taker with the vault v says to m.
func answer(t *testing.T, m api.Msg, v *vault.Vault) api.Msg {
	if m.Kind == api.MEnd {
		return ended()
	}
	if errno := v.Merge(m.Key, m.Bag); errno != api.OK {
		t.Errorf("Merge(%q) = %d", m.Key, errno)
	}
	return got(m)
}

// handover is a giver, a taker, and what lies between them.
type handover struct {
	r     *rand.Rand
	keys  []string
	log   *ledger.Ledger
	giver *give.Giver
	from  *vault.Vault
	to    *vault.Vault
	wire  *wire
}

// step does one thing, and reports whether the part went over by it.
func (h *handover) step(t *testing.T, writes, crashes bool) bool {
	switch n := h.r.Intn(100); {
	case n < 10 && writes:
		key := h.keys[h.r.Intn(len(h.keys))]
		known := h.from.Bag(key).Known
		if h.r.Intn(4) == 0 {
			known = api.Vector{}
		}
		if _, errno := h.from.Put(self, key, known, strconv.Itoa(n)); errno == api.OK {
			h.from.Sync()
			h.giver.Wrote(key)
		}
	case n == 10 && crashes:
		h.log.Crash(0)
		h.from, h.giver = vault.Open(h.log), begun(t)
	case n < 40:
		h.wire.send(h.giver.Tick(h.from)...)
	default:
		m, ok := h.wire.take()
		switch {
		case !ok:
		case m.To == to:
			h.wire.send(answer(t, m, h.to))
		case m.Kind == api.MGot:
			h.giver.Got(m)
		default:
			return h.giver.Ended(m, h.from)
		}
	}
	return false
}

// P20.4: whatever is written, lost, doubled and late, and however often the giver
// crashes: when the part goes over, the taker has everything that there is; and
// it goes over when nothing of that happens any more.
func TestAllOfThePartGoesOver(t *testing.T) {
	r := rand.New(rand.NewSource(3))
	wild := 0
	for round := range 200 {
		log := ledger.New(3000)
		h := &handover{r: r, keys: of(home, 1+r.Intn(25), "k"), log: log, giver: begun(t), from: vault.Open(log), to: empty()}
		h.wire = &wire{r: r, loss: r.Intn(60)}
		put(t, h.from, "x", h.keys[r.Intn(len(h.keys)):]...)
		h.from.Sync()
		isOver := false
		for i := 0; i < 600; i++ {
			isOver = h.step(t, i < 400+r.Intn(400) && round%4 > 0, round%3 == 0)
			if isOver {
				wild++
				mustHaveAll(t, h)
			}
		}
		h.wire.loss, isOver = 0, false
		for i := 0; i < 5000 && !isOver; i++ {
			isOver = h.step(t, false, false)
		}
		if !isOver {
			t.Fatalf("the part does not go over: %v is out", h.giver.Out())
		}
		mustHaveAll(t, h)
	}
	if wild < 200 {
		t.Errorf("only %d times it went over while it was written", wild)
	}
}

// mustHaveAll fails unless the taker knows all bags of the giver.
func mustHaveAll(t *testing.T, h *handover) {
	t.Helper()
	for _, key := range h.from.Keys(home) {
		if !bag.Below(h.from.Bag(key), h.to.Bag(key)) {
			t.Fatalf("of %q %v went over, and there is %v", key, h.to.Bag(key), h.from.Bag(key))
		}
	}
}
