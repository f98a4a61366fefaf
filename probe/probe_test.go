package probe_test

import (
	"math"
	"math/big"
	"math/rand"
	"slices"
	"testing"

	"starling/api"
	"starling/probe"
)

// upTo is the numbers from 0 to n - 1.
func upTo(n int) []int {
	var l []int
	for i := range n {
		l = append(l, i)
	}
	return l
}

// plainShuffle does what the chapter says with numbers that do not wrap around.
func plainShuffle(l []int, draw uint64) []int {
	out := slices.Clone(l)
	if len(out) > 64 {
		out = out[:64]
	}
	x := new(big.Int).SetUint64(draw)
	half := new(big.Int).Lsh(big.NewInt(1), 33)
	whole := new(big.Int).Lsh(big.NewInt(1), 64)
	for i := len(out) - 1; i >= 1; i-- {
		x.Mul(x, big.NewInt(6364136223846793005))
		x.Add(x, big.NewInt(1442695040888963407))
		x.Mod(x, whole)
		k := new(big.Int).Div(x, half)
		k.Mod(k, big.NewInt(int64(i+1)))
		at := int(k.Int64())
		out[i], out[at] = out[at], out[i]
	}
	return out
}

// plainOrder does what the chapter says, one sentence after the other.
type plainOrder struct {
	self int
	left []int
}

func (p *plainOrder) next(peers []int, draw uint64) int {
	var reduced []int
	for node := range api.Nodes {
		if node != p.self && slices.Contains(peers, node) {
			reduced = append(reduced, node)
		}
	}
	if len(reduced) == 0 {
		return -1
	}
	var still []int
	for _, node := range p.left {
		if slices.Contains(reduced, node) {
			still = append(still, node)
		}
	}
	if len(still) == 0 {
		still = plainShuffle(reduced, draw)
	}
	p.left = still[1:]
	return still[0]
}

func mustNext(t *testing.T, o *probe.Order, peers []int, draw uint64, want int) {
	t.Helper()
	if got := o.Next(peers, draw); got != want {
		t.Errorf("Next(%v, %d) = %d, not %d", peers, draw, got, want)
	}
}

func mustLeave(t *testing.T, o *probe.Order, want ...int) {
	t.Helper()
	if got := o.Rest(); !slices.Equal(got, want) {
		t.Errorf("Rest() = %v, not %v", got, want)
	}
}

// P4.1: worked out from the chapter apart from the program.
func TestShuffleRows(t *testing.T) {
	for _, x := range []struct {
		l    []int
		draw uint64
		want []int
	}{
		{nil, 9, nil},
		{[]int{}, 0, nil},
		{[]int{4}, 9, []int{4}},
		{[]int{1, 2}, 0, []int{1, 2}},
		{[]int{1, 2}, 1, []int{2, 1}},
		{[]int{1, 2}, 2, []int{2, 1}},
		{[]int{1, 2}, 3, []int{1, 2}},
		{[]int{7, 7, 9}, 2, []int{9, 7, 7}},
		{[]int{10, 20, 30}, 5, []int{10, 30, 20}},
		{upTo(8), 0, []int{3, 0, 2, 4, 5, 6, 1, 7}},
		{upTo(8), 1, []int{7, 4, 3, 2, 5, 0, 1, 6}},
		{upTo(8), math.MaxUint64, []int{6, 5, 4, 7, 2, 1, 3, 0}},
		{[]int{-5, math.MaxInt, math.MinInt, 0}, 1 << 63, []int{-5, math.MinInt, math.MaxInt, 0}},
	} {
		if got := probe.Shuffle(x.l, x.draw); !slices.Equal(got, x.want) {
			t.Errorf("Shuffle(%v, %d) = %v, not %v", x.l, x.draw, got, x.want)
		}
	}
}

// P4.1: every length around the 64 that are shuffled at most.
func TestShuffleAgainstPlainShuffle(t *testing.T) {
	r := rand.New(rand.NewSource(1))
	for n := range 130 {
		for range 20 {
			l, draw := r.Perm(n), r.Uint64()
			if got, want := probe.Shuffle(l, draw), plainShuffle(l, draw); !slices.Equal(got, want) {
				t.Fatalf("Shuffle(%v, %d) = %v, not %v", l, draw, got, want)
			}
		}
	}
}

// P4.1: nothing is lost, and what comes after the first 64 does not count.
func TestShuffleKeepsTheFirst(t *testing.T) {
	for _, n := range []int{0, 1, 2, 63, 64, 65, 1000} {
		l := upTo(n)
		got := probe.Shuffle(l, 77)
		if !slices.Equal(got, probe.Shuffle(l[:min(n, 64)], 77)) {
			t.Errorf("%d elements: what comes after the first 64 counts", n)
		}
		slices.Sort(got)
		if want := upTo(min(n, 64)); !slices.Equal(got, want) {
			t.Errorf("%d elements: shuffled are %v", n, got)
		}
	}
}

// P4.1
func TestSome(t *testing.T) {
	for _, n := range []int{0, 1, 2, 7, 64, 65, 200} {
		l := upTo(n)
		whole := plainShuffle(l, 31)
		for _, k := range []int{
			math.MinInt, -1, 0, 1, 2, 6, 7, 8, 63, 64, 65, 200, math.MaxInt,
		} {
			want := whole[:min(max(k, 0), len(whole))]
			if got := probe.Some(l, k, 31); !slices.Equal(got, want) {
				t.Errorf("Some of %d, %d = %v, not %v", n, k, got, want)
			}
		}
	}
	if got := probe.Some(nil, 2, 5); len(got) != 0 {
		t.Errorf("Some of none = %v", got)
	}
}

// P4.1, R2: neither the list, nor what lies beyond its length, is changed, and
// the answer shares no memory with it.
func TestShuffleLeavesListAlone(t *testing.T) {
	for _, n := range []int{0, 1, 2, 5, 64, 65} {
		all := upTo(n + 3)
		l := all[:n]
		for _, got := range [][]int{probe.Shuffle(l, 5), probe.Some(l, 3, 5), probe.Some(l, n, 5)} {
			for i := range got {
				got[i] = -9
			}
			got = append(got, -9, -9)
			if !slices.Equal(all, upTo(n+3)) {
				t.Fatalf("%d elements: the list has become %v", n, all)
			}
		}
	}
}

// P4.2: the example.
func TestOnePeer(t *testing.T) {
	o := probe.New(0)
	for draw := range uint64(3) {
		mustNext(t, o, []int{2}, draw, 2)
		mustLeave(t, o)
	}
}

// P4.2
func TestNewLeavesNobody(t *testing.T) {
	for _, self := range []int{math.MinInt, -1, 0, 7, 8, math.MaxInt} {
		mustLeave(t, probe.New(self))
	}
}

// P4.2: peers are reduced to nodes other than self, each once, in ascending
// order: which of them is first then depends on nothing but draw.
func TestNextReducesPeers(t *testing.T) {
	for _, x := range []struct {
		self  int
		peers []int
		want  []int
	}{
		{3, []int{0, 1, 6}, []int{0, 1, 6}},
		{3, []int{6, 0, 1}, []int{0, 1, 6}},
		{3, []int{6, 6, 1, 0, 1, 6}, []int{0, 1, 6}},
		{3, []int{3, 6, 3, 1, 0, 3}, []int{0, 1, 6}},
		{3, []int{-1, 6, 8, 1, math.MinInt, 0, math.MaxInt}, []int{0, 1, 6}},
		{0, upTo(8), []int{1, 2, 3, 4, 5, 6, 7}},
		{7, upTo(100), []int{0, 1, 2, 3, 4, 5, 6}},
		{-1, upTo(8), upTo(8)},
		{8, upTo(9), upTo(8)},
		{math.MinInt, []int{math.MinInt, 2}, []int{2}},
	} {
		for draw := range uint64(20) {
			o := probe.New(x.self)
			want := plainShuffle(x.want, draw)
			mustNext(t, o, x.peers, draw, want[0])
			mustLeave(t, o, want[1:]...)
		}
	}
}

// P4.2
func TestNextOfNobody(t *testing.T) {
	for _, peers := range [][]int{
		nil, {}, {3}, {3, 3}, {-1}, {8}, {-1, 3, 8, math.MinInt, math.MaxInt},
	} {
		o := probe.New(3)
		mustNext(t, o, peers, 5, -1)
		mustLeave(t, o)
		mustNext(t, o, []int{4}, 5, 4)
	}
}

// P4.2: the result is -1 before anything is removed.
func TestNextOfNobodyKeepsTheRound(t *testing.T) {
	o := probe.New(3)
	o.Next(upTo(8), 1)
	rest := o.Rest()
	for _, peers := range [][]int{nil, {3}, {8, -1}} {
		mustNext(t, o, peers, 2, -1)
		mustLeave(t, o, rest...)
	}
	mustNext(t, o, upTo(8), 2, rest[0])
	mustLeave(t, o, rest[1:]...)
}

// P4.2: draw counts when a round begins, and not within it.
func TestDrawCountsOncePerRound(t *testing.T) {
	o := probe.New(0)
	peers := upTo(8)
	for round := range uint64(30) {
		want := plainShuffle(peers[1:], round)
		mustNext(t, o, peers, round, want[0])
		for i, node := range want[1:] {
			mustNext(t, o, peers, round*100+uint64(i), node)
			mustLeave(t, o, want[i+2:]...)
		}
	}
}

// P4.2: nodes that are left but are not peers any more are not asked.
func TestWhoGoesIsRemoved(t *testing.T) {
	peers := upTo(8)
	for gone := 2; gone <= 6; gone++ {
		o := probe.New(0)
		order := plainShuffle(peers[1:], 4)
		mustNext(t, o, peers, 4, order[0])
		fewer := slices.DeleteFunc(slices.Clone(peers), func(n int) bool { return n == order[gone] })
		want := slices.Delete(slices.Clone(order), gone, gone+1)
		mustNext(t, o, fewer, 9, want[1])
		mustLeave(t, o, want[2:]...)
		// If it comes back, it waits for the next round.
		for _, node := range want[2:] {
			mustNext(t, o, peers, 9, node)
		}
		mustLeave(t, o)
	}
}

// P4.2: the first one that is left goes.
func TestWhoIsNextGoes(t *testing.T) {
	o := probe.New(0)
	order := plainShuffle([]int{1, 2, 3}, 4)
	mustNext(t, o, []int{1, 2, 3}, 4, order[0])
	mustNext(t, o, []int{order[0], order[2]}, 4, order[2])
	mustLeave(t, o)
}

// P4.2: if all that are left go, a new round begins at once, with who has come.
func TestAllThatAreLeftGo(t *testing.T) {
	o := probe.New(0)
	order := plainShuffle([]int{1, 2, 3}, 4)
	mustNext(t, o, []int{1, 2, 3}, 4, order[0])
	now := []int{5, 6, 7, order[0]}
	slices.Sort(now)
	want := plainShuffle(now, 11)
	mustNext(t, o, now, 11, want[0])
	mustLeave(t, o, want[1:]...)
}

// P4.2: who comes is asked in the next round.
func TestWhoComesWaits(t *testing.T) {
	o := probe.New(0)
	order := plainShuffle([]int{1, 2, 3}, 4)
	mustNext(t, o, []int{1, 2, 3}, 4, order[0])
	mustNext(t, o, upTo(8), 5, order[1])
	mustLeave(t, o, order[2])
	mustNext(t, o, upTo(8), 6, order[2])
	mustLeave(t, o)
	want := plainShuffle(upTo(8)[1:], 7)
	mustNext(t, o, upTo(8), 7, want[0])
	mustLeave(t, o, want[1:]...)
}

// P4.2, R2: peers are neither changed nor kept, and what Rest answers belongs
// to the caller.
func TestMemory(t *testing.T) {
	all := []int{6, 3, 1, 9, -1, 6, 0, 5}
	peers := all[:7]
	o := probe.New(3)
	o.Next(peers, 5)
	if !slices.Equal(all, []int{6, 3, 1, 9, -1, 6, 0, 5}) {
		t.Errorf("the peers have become %v", all)
	}
	first, want := o.Rest(), slices.Clone(o.Rest())
	clear(all)
	mustLeave(t, o, want...)
	for i := range first {
		first[i] = 4
	}
	_ = append(first[:0], 4, 4, 4)
	mustLeave(t, o, want...)
	second := o.Rest()
	o.Next([]int{want[1]}, 5)
	o.Next([]int{2, 4}, 5)
	if !slices.Equal(second, want) {
		t.Errorf("an answer has become %v", second)
	}
}

// P4.2: what one order asks is nothing to another one.
func TestOrdersAreIndependent(t *testing.T) {
	o, p := probe.New(0), probe.New(0)
	o.Next(upTo(8), 3)
	mustLeave(t, p)
	mustLeave(t, probe.New(0))
	want := o.Rest()
	p.Next([]int{1, 2}, 3)
	mustLeave(t, o, want...)
}

// P4.2, R3
func TestNilOrder(t *testing.T) {
	var o *probe.Order
	mustNext(t, o, nil, 0, -1)
	mustNext(t, o, []int{1, 2}, 5, -1)
	mustNext(t, o, []int{-1, math.MaxInt}, math.MaxUint64, -1)
	mustLeave(t, o)
}

// P4.2: peers that come and go.
func TestAgainstPlainOrder(t *testing.T) {
	r := rand.New(rand.NewSource(2))
	for range 300 {
		self := r.Intn(10) - 1
		o, p := probe.New(self), &plainOrder{self: self}
		peers := upTo(8)
		for range 40 {
			if r.Intn(3) == 0 {
				peers = nil
				for range r.Intn(10) {
					peers = append(peers, r.Intn(12)-2)
				}
			}
			draw := r.Uint64()
			mustNext(t, o, peers, draw, p.next(peers, draw))
			mustLeave(t, o, p.left...)
			if t.Failed() {
				return
			}
		}
	}
}

// P4.3: whoever the peers are, a round asks each of them once.
func TestEachIsAskedOnceARound(t *testing.T) {
	r := rand.New(rand.NewSource(3))
	for set := 1; set < 1<<api.Nodes; set++ {
		self := r.Intn(api.Nodes)
		var peers []int
		for node := range api.Nodes {
			if set>>node&1 == 1 && node != self {
				peers = append(peers, node)
			}
		}
		o := probe.New(self)
		for range 4 {
			var asked []int
			for range peers {
				asked = append(asked, o.Next(peers, r.Uint64()))
			}
			mustLeave(t, o)
			slices.Sort(asked)
			if !slices.Equal(asked, peers) {
				t.Fatalf("of %v a round has asked %v", peers, asked)
			}
		}
	}
}

// P4.3: nobody is asked twice in a round, even if it goes and comes back.
func TestNobodyIsAskedTwiceInARound(t *testing.T) {
	r := rand.New(rand.NewSource(4))
	for range 200 {
		o := probe.New(0)
		var asked []int
		for range 100 {
			var peers []int
			for node := 1; node < api.Nodes; node++ {
				if r.Intn(2) == 0 {
					peers = append(peers, node)
				}
			}
			goesOn := slices.ContainsFunc(o.Rest(), func(node int) bool {
				return slices.Contains(peers, node)
			})
			if len(peers) > 0 && !goesOn {
				asked = nil
			}
			node := o.Next(peers, r.Uint64())
			if slices.Contains(asked, node) {
				t.Fatalf("node %d is asked again after %v", node, asked)
			}
			if node >= 0 {
				asked = append(asked, node)
			}
		}
	}
}
