package space_test

import (
	"math"
	"math/rand"
	"slices"
	"strings"
	"sync"
	"testing"

	"starling/space"
)

// row is a number for each letter: a digit, or -1.
func row(s string) []int {
	var l []int
	for _, c := range []byte(s) {
		if c == '-' {
			l = append(l, -1)
		} else {
			l = append(l, int(c-'0'))
		}
	}
	return l
}

// steps is a number for each letter: a digit, or from 10 on a letter, g being 16.
func steps(s string) []int {
	var l []int
	for _, c := range []byte(s) {
		l = append(l, strings.IndexByte("0123456789abcdefg", c))
	}
	return l
}

// notNodes are numbers that are not nodes, some of them with the lowest bits of
// one.
func notNodes() []int {
	return []int{
		-1, -2, -8, 8, 9, 15, 16, 128, 255, 256, 257, 1 << 16, 1 << 32, 1<<32 + 3,
		-1 << 32, math.MaxInt - 1, math.MaxInt, math.MinInt, math.MinInt + 1,
	}
}

// notParts are numbers that are not parts.
func notParts() []int {
	return []int{
		-1, -2, -15, -16, -17, 16, 17, 24, 31, 32, 255, 256, 1 << 16, 1 << 32, 1<<32 + 3,
		-1 << 32, math.MaxInt - 1, math.MaxInt, math.MinInt, math.MinInt + 1,
	}
}

// drawn is n numbers that r draws, most of them nodes below most.
func drawn(r *rand.Rand, n, most int) []int {
	var l []int
	for range n {
		if r.Intn(8) == 0 {
			l = append(l, notNodes()[r.Intn(len(notNodes()))])
		} else {
			l = append(l, r.Intn(most))
		}
	}
	return l
}

// eachDrawn calls check with many targets and many lists of members, short and
// long, orderly and not.
func eachDrawn(seed int64, check func(targets, members []int)) {
	r := rand.New(rand.NewSource(seed))
	for i := range 10000 {
		n := 16
		if i%4 == 0 {
			n = r.Intn(40)
		}
		check(drawn(r, n, 1+r.Intn(8)), drawn(r, r.Intn(13), 1+r.Intn(8)))
	}
}

// eachLength calls check with targets of every length up to beyond the parts.
func eachLength(check func(targets []int)) {
	for _, s := range []string{"0", "7", "01", "-5", "001", "01234567", "0123456", "77-6", "--------------3", "4--------------"} {
		for n := range 70 {
			check(row(strings.Repeat(s, 70)[:n]))
		}
	}
}

// ownerIn is the node to which part belongs, or -1.
func ownerIn(targets []int, part int) int {
	if part >= 0 && part < 16 && part < len(targets) && targets[part] >= 0 && targets[part] <= 7 {
		return targets[part]
	}
	return -1
}

// partsOf is the parts of node, in ascending order.
func partsOf(targets []int, node int) []int {
	var l []int
	for part := range 16 {
		if node >= 0 && ownerIn(targets, part) == node {
			l = append(l, part)
		}
	}
	return l
}

func plainCounts(targets []int) []int {
	var l []int
	for node := range 8 {
		l = append(l, len(partsOf(targets, node)))
	}
	return l
}

// plainNext looks for part among those of its node, and takes the difference
// to the one that stands behind it there, or to the first one, a round later.
func plainNext(targets []int, part int) int {
	l := partsOf(targets, ownerIn(targets, part))
	if len(l) == 0 {
		return 0
	}
	l = append(l, l[0]+16)
	return l[slices.Index(l, part)+1] - part
}

func plainLeast(targets []int, node int) int {
	var l []int
	for _, part := range partsOf(targets, node) {
		l = append(l, plainNext(targets, part))
	}
	if len(l) == 0 {
		return 0
	}
	return slices.Min(l)
}

// plainUneven holds each member against each.
func plainUneven(targets, members []int) int {
	most := 0
	for node := range 8 {
		for other := range 8 {
			if slices.Contains(members, node) && slices.Contains(members, other) {
				most = max(most, len(partsOf(targets, node))-len(partsOf(targets, other)))
			}
		}
	}
	return most
}

func plainText(targets []int) string {
	var l []string
	for part := range 16 {
		if owner := ownerIn(targets, part); owner >= 0 {
			l = append(l, "01234567"[owner:owner+1])
		} else {
			l = append(l, "-")
		}
	}
	return strings.Join(l, "")
}

func mustCount(t *testing.T, targets []int, want ...int) {
	t.Helper()
	if got := space.Counts(targets); !slices.Equal(got, want) {
		t.Errorf("Counts(%v) = %v, not %v", targets, got, want)
	}
}

func mustBeNext(t *testing.T, targets []int, part, want int) {
	t.Helper()
	if got := space.Next(targets, part); got != want {
		t.Errorf("Next(%v, %d) = %d, not %d", targets, part, got, want)
	}
}

// mustBeNexts asks for all parts, in order.
func mustBeNexts(t *testing.T, targets []int, want ...int) {
	t.Helper()
	if len(want) != 16 {
		t.Fatalf("%d numbers for 16 parts", len(want))
	}
	for part, steps := range want {
		mustBeNext(t, targets, part, steps)
	}
}

func mustBeLeast(t *testing.T, targets []int, node, want int) {
	t.Helper()
	if got := space.Least(targets, node); got != want {
		t.Errorf("Least(%v, %d) = %d, not %d", targets, node, got, want)
	}
}

// mustBeLeasts asks for all nodes, in order.
func mustBeLeasts(t *testing.T, targets []int, want ...int) {
	t.Helper()
	if len(want) != 8 {
		t.Fatalf("%d numbers for 8 nodes", len(want))
	}
	for node, steps := range want {
		mustBeLeast(t, targets, node, steps)
	}
}

func mustBeUneven(t *testing.T, targets, members []int, want int) {
	t.Helper()
	if got := space.Uneven(targets, members); got != want {
		t.Errorf("Uneven(%v, %v) = %d, not %d", targets, members, got, want)
	}
}

func mustTell(t *testing.T, targets []int, want string) {
	t.Helper()
	if got := space.Text(targets); got != want {
		t.Errorf("Text(%v) = %q, not %q", targets, got, want)
	}
}

// mustBePlain holds all calls against what the chapter says.
func mustBePlain(t *testing.T, targets, members []int) {
	t.Helper()
	mustCount(t, targets, plainCounts(targets)...)
	for part := -1; part < 18; part++ {
		mustBeNext(t, targets, part, plainNext(targets, part))
	}
	for node := -1; node < 10; node++ {
		mustBeLeast(t, targets, node, plainLeast(targets, node))
	}
	mustBeUneven(t, targets, members, plainUneven(targets, members))
	mustTell(t, targets, plainText(targets))
}

// P15.1: worked out from the chapter apart from the program.
func TestDistances(t *testing.T) {
	for _, x := range []struct{ targets, counts, nexts, leasts string }{
		{"", "00000000", "0000000000000000", "00000000"},
		{"----------------", "00000000", "0000000000000000", "00000000"},
		{"0", "10000000", "g000000000000000", "g0000000"},
		{"7", "00000001", "g000000000000000", "0000000g"},
		{"---------------7", "00000001", "000000000000000g", "0000000g"},
		{"010", "21000000", "2ge0000000000000", "2g000000"},
		{"0--------------0", "20000000", "f000000000000001", "10000000"}, // part 0 follows the last one
		{"-3------------3-", "00020000", "0d00000000000030", "00030000"},
		{"5-------5-------", "00000200", "8000000080000000", "00000800"},
		{"5------5--------", "00000200", "7000000900000000", "00000700"},
		{"5--------5------", "00000200", "9000000007000000", "00000700"},
		{"0000000000000000", "g0000000", "1111111111111111", "10000000"},
		{"7777777777777777", "0000000g", "1111111111111111", "00000001"},
		{"0000000011111111", "88000000", "1111111911111119", "11000000"},
		{"0101010101010101", "88000000", "2222222222222222", "22000000"},
		{"0123012301230123", "44440000", "4444444444444444", "44440000"},
		{"0123456701234567", "22222222", "8888888888888888", "88888888"},
		{"0123456776543210", "22222222", "fdb97531fdb97531", "13577531"},
		{"0120120120120120", "65500000", "3333333333333441", "13300000"},
		{"222222222222222-", "00f00000", "1111111111111120", "00100000"},
		{"-222222222222222", "00f00000", "0111111111111112", "00100000"},
		{"6666666666666661", "010000f0", "111111111111112g", "0g000010"},
	} {
		mustCount(t, row(x.targets), steps(x.counts)...)
		mustBeNexts(t, row(x.targets), steps(x.nexts)...)
		mustBeLeasts(t, row(x.targets), steps(x.leasts)...)
		mustTell(t, row(x.targets), (x.targets + "----------------")[:16])
	}
}

// P15.1: what is not a part has no next one, even where it is a number of the
// targets, or would be one of the parts in fewer bits.
func TestNextOfWhatIsNotAPart(t *testing.T) {
	for _, targets := range [][]int{nil, row("0"), row("0101010101010101"), slices.Repeat([]int{3}, 300)} {
		for _, n := range notParts() {
			mustBeNext(t, targets, n, 0)
		}
	}
}

// P15.1: what is not a node has no parts, even where the targets name it.
func TestLeastOfWhatIsNotANode(t *testing.T) {
	for _, n := range notNodes() {
		for _, targets := range [][]int{nil, row("0"), row("0101010101010101"), slices.Repeat([]int{n}, 16), append(row("012"), n, n)} {
			mustBeLeast(t, targets, n, 0)
		}
	}
}

// P15.1, P15.2: a part belongs to nobody whatever number stands there, if it is
// not a node, and is passed over on the way to the next one.
func TestTargetsThatAreNotNodes(t *testing.T) {
	for _, n := range notNodes() {
		targets := []int{0, n, 0, n, n, 1, n, n, n, 1, n, n, n, n, n, 2}
		mustCount(t, targets, 2, 2, 1, 0, 0, 0, 0, 0)
		mustBeNexts(t, targets, steps("20e004000c00000g")...)
		mustBeLeasts(t, targets, steps("24g00000")...)
		mustBeUneven(t, targets, row("0123"), 2)
		mustTell(t, targets, "0-0--1---1-----2")

		nobody := slices.Repeat([]int{n}, 16)
		mustCount(t, nobody, 0, 0, 0, 0, 0, 0, 0, 0)
		mustBeNexts(t, nobody, make([]int, 16)...)
		mustBeLeasts(t, nobody, make([]int, 8)...)
		mustBeUneven(t, nobody, row("01234567"), 0)
		mustTell(t, nobody, "----------------")
	}
}

// P15.1, P15.2: what is missing belongs to nobody, at every length.
func TestMissingTargets(t *testing.T) {
	all := row("0011223344556677")
	for n := range 17 {
		want := row("0011223344556677"[:n] + "----------------"[n:])
		mustCount(t, all[:n], space.Counts(want)...)
		mustBePlain(t, all[:n], row("01234567"))
		mustTell(t, all[:n], "0011223344556677"[:n]+"----------------"[n:])
	}
	mustBeLeasts(t, all[:1], 16, 0, 0, 0, 0, 0, 0, 0)
	mustBeLeasts(t, all[:3], 1, 16, 0, 0, 0, 0, 0, 0)
	mustCount(t, []int{}, 0, 0, 0, 0, 0, 0, 0, 0)
	mustTell(t, []int{}, "----------------")
}

// P15.1, P15.2: what is behind the last part is not one, and nothing follows it.
func TestAdditionalTargets(t *testing.T) {
	targets := row("0-1-2-3-0-1-2-3-")
	for _, more := range [][]int{{0}, row("3"), row("77"), row("0123456701234567"), notNodes(), make([]int, 100000)} {
		l := slices.Concat(targets, more)
		mustCount(t, l, 2, 2, 2, 2, 0, 0, 0, 0)
		mustBeNexts(t, l, steps("8080808080808080")...)
		mustBeLeasts(t, l, steps("88880000")...)
		mustBeUneven(t, l, row("01237"), 2)
		mustTell(t, l, "0-1-2-3-0-1-2-3-")
	}
	mustBeNext(t, row("0---------------0"), 0, 16)
	mustBeLeast(t, row("----------------0"), 0, 0)
}

// P15.1: every pair of parts of one node, among parts of others or of nobody.
func TestNextOfTwo(t *testing.T) {
	for _, others := range []string{"-", "5", "8"} {
		for node := range 8 {
			if node == 5 {
				continue
			}
			for a := range 16 {
				for b := range a {
					targets := row(strings.Repeat(others, 16))
					targets[a], targets[b] = node, node
					mustBeNext(t, targets, b, a-b)
					mustBeNext(t, targets, a, 16-(a-b))
					mustBeLeast(t, targets, node, min(a-b, 16-(a-b)))
				}
			}
		}
	}
}

// P15.1, P15.3: every set of parts that a node may have.
func TestEverySetOfParts(t *testing.T) {
	for set := range 1 << 16 {
		targets, has := make([]int, 16), 0
		for part := range targets {
			targets[part] = 4 - set>>part&1
			has += set >> part & 1
		}
		if got := space.Counts(targets); !slices.Equal(got, []int{0, 0, 0, has, 16 - has, 0, 0, 0}) {
			t.Errorf("Counts(%v) = %v", targets, got)
		}
		for node := 3; node <= 4; node++ {
			mustGoRound(t, targets, node)
			mustBeLeast(t, targets, node, plainLeast(targets, node))
		}
	}
}

// mustGoRound asks that all Next of node together are as many as the parts, and
// that who follows them comes by each of its parts once.
func mustGoRound(t *testing.T, targets []int, node int) {
	t.Helper()
	l, sum := partsOf(targets, node), 0
	for i, part := range l {
		steps := space.Next(targets, part)
		sum += steps
		if to := (part + steps) % 16; to != l[(i+1)%len(l)] {
			t.Errorf("%v: part %d is next to %d", targets, to, part)
		}
	}
	if len(l) > 0 && sum != 16 || len(l) == 0 && sum != 0 {
		t.Errorf("%v: the Next of node %d are %d in all", targets, node, sum)
	}
}

// P15.3
func TestNextGoesRound(t *testing.T) {
	check := func(targets, _ []int) {
		for node := range 8 {
			mustGoRound(t, targets, node)
		}
	}
	eachDrawn(1, check)
	eachLength(func(targets []int) { check(targets, nil) })
}

// P15.2: worked out from the chapter apart from the program.
func TestUneven(t *testing.T) {
	for _, x := range []struct {
		targets, members string
		want             int
	}{
		{"", "", 0},
		{"", "0", 0},
		{"", "01234567", 0},
		{"0000000000000000", "", 0},
		{"0000000000000000", "0", 0},
		{"0000000000000000", "7", 0},
		{"0000000000000000", "67", 0},
		{"0000000000000000", "07", 16},
		{"0000000000000000", "70", 16},
		{"0000000000000000", "01234567", 16},
		{"7777777777777777", "01234567", 16},
		{"7777777777777777", "0123456", 0},
		{"0000000011111111", "01", 0},
		{"0000000011111111", "012", 8},
		{"0120120120120120", "012", 1},
		{"0120120120120120", "12", 0},
		{"0120120120120120", "0123", 6},
		{"0120120120120120", "123", 5},
		{"0123456701234567", "01234567", 0},
		{"0000001111222334", "01234", 5},
		{"0000001111222334", "43210", 5},
		{"0000001111222334", "03142", 5},
		{"0000001111222334", "1234", 3},
		{"0000001111222334", "0123", 4},
		{"0000001111222334", "23", 1},
		{"0000001111222334", "012345", 6},
		{"000000--11112---", "02", 5},
		{"3", "3", 0},
		{"3", "34", 1},
	} {
		mustBeUneven(t, row(x.targets), row(x.members), x.want)
		mustBeUneven(t, row(x.targets), row(x.members+x.members), x.want)
	}
}

// P15.2: members that are not nodes count for nothing, neither as ones without
// parts nor as owners of those that belong to nobody.
func TestUnevenOfMembersThatAreNotNodes(t *testing.T) {
	targets := row("00000011112----8")
	mustBeUneven(t, targets, notNodes(), 0)
	mustBeUneven(t, targets, append(notNodes(), 0), 0)
	mustBeUneven(t, targets, append(row("10"), notNodes()...), 2)
	mustBeUneven(t, targets, slices.Concat(row("2"), notNodes(), row("01")), 5)
	for _, n := range notNodes() {
		mustBeUneven(t, targets, []int{n}, 0)
		mustBeUneven(t, targets, []int{n, 0}, 0)
		mustBeUneven(t, targets, []int{1, n, 0}, 2)
		mustBeUneven(t, slices.Repeat([]int{n}, 16), []int{n, 0}, 0)
	}
	mustBeUneven(t, targets, slices.Repeat([]int{1, -1, 0, 8}, 100000), 2)
}

// P15.2: every set of members.
func TestUnevenOfEverySet(t *testing.T) {
	for _, s := range []string{"0000000000000000", "0123456701234567", "7777776666655551", "0112223333------", "5544433222211110"} {
		for set := range 256 {
			var members []int
			for node := range 8 {
				if set>>node&1 == 1 {
					members = append(members, node)
				}
			}
			mustBeUneven(t, row(s), members, plainUneven(row(s), members))
		}
	}
}

// P15.2: the example, and every digit at every part.
func TestText(t *testing.T) {
	mustTell(t, row("010"), "010-------------")
	mustTell(t, nil, "----------------")
	for part := range 16 {
		for node := range 8 {
			targets := slices.Repeat([]int{-1}, 16)
			targets[part] = node
			dashes := strings.Repeat("-", 15)
			mustTell(t, targets, dashes[:part]+"01234567"[node:node+1]+dashes[part:])
		}
	}
}

// P15.1, P15.2
func TestAgainstPlainOnes(t *testing.T) {
	eachDrawn(2, func(targets, members []int) { mustBePlain(t, targets, members) })
	eachLength(func(targets []int) { mustBePlain(t, targets, row("035")) })
}

// R2: arguments stay as they are, and what lies beyond their length is not read.
func TestArgumentsStay(t *testing.T) {
	eachDrawn(3, func(targets, members []int) {
		targetsAll := append(slices.Clone(targets), row("7654321076543210")...)
		membersAll := append(slices.Clone(members), row("01234567")...)
		targetsWere, membersWere := slices.Clone(targetsAll), slices.Clone(membersAll)
		mustBePlain(t, targetsAll[:len(targets)], membersAll[:len(members)])
		if !slices.Equal(targetsAll, targetsWere) || !slices.Equal(membersAll, membersWere) {
			t.Errorf("%v, %v: the arguments have changed", targetsWere, membersWere)
		}
	})
}

// R2: an answer is the caller's alone.
func TestAnswersAreNewMemory(t *testing.T) {
	targets := row("0120120120120120")
	first := space.Counts(targets)
	first = first[:cap(first)]
	for i := range first {
		first[i] = 99
	}
	mustCount(t, targets, 6, 5, 5, 0, 0, 0, 0, 0)
	mustTell(t, targets, "0120120120120120")
}

// R6: nothing is kept from call to call, in whatever order the calls come.
func TestNothingIsKept(t *testing.T) {
	r := rand.New(rand.NewSource(4))
	var targets, members [][]int
	for range 200 {
		targets, members = append(targets, drawn(r, 16, 8)), append(members, drawn(r, 5, 8))
	}
	var all sync.WaitGroup
	for range 4 {
		order := r.Perm(len(targets))
		all.Go(func() {
			for _, i := range order {
				mustBePlain(t, targets[i], members[i])
			}
		})
	}
	all.Wait()
}
