package health_test

import (
	"math"
	"strconv"
	"strings"
	"testing"

	"starling/api"
	"starling/health"
)

func claim(node, inc, status int) api.Claim {
	return api.Claim{Node: node, Inc: inc, Health: status}
}

// numbers are those at which a call may answer otherwise, and their neighbours.
func numbers() []int {
	return []int{
		math.MinInt, -1, 0, 1, 2, 3, 4, 5, 6, 7, 8, 9,
		api.MaxInc - 1, api.MaxInc, api.MaxInc + 1, math.MaxInt,
	}
}

// everyClaim is every claim made of these numbers, valid or not.
func everyClaim(nodes, incs, statuses []int) []api.Claim {
	var l []api.Claim
	for _, node := range nodes {
		for _, inc := range incs {
			for _, status := range statuses {
				l = append(l, claim(node, inc, status))
			}
		}
	}
	return l
}

// P1.1
func TestMay(t *testing.T) {
	for _, x := range []struct {
		name string
		c    api.Claim
		want bool
	}{
		{"nothing is said of the first node", claim(0, 0, api.HNone), true},
		{"nothing is said of the last node", claim(api.Nodes-1, 0, api.HNone), true},
		{"nothing is said, with an incarnation", claim(1, 1, api.HNone), false},
		{"nothing is said, with a negative incarnation", claim(1, -1, api.HNone), false},
		{"alive, the least incarnation", claim(0, 0, api.HAlive), true},
		{"alive, the greatest incarnation", claim(7, api.MaxInc, api.HAlive), true},
		{"suspect", claim(2, 5, api.HSuspect), true},
		{"dead", claim(2, 5, api.HDead), true},
		{"left", claim(2, 5, api.HLeft), true},
		{"left, the least incarnation", claim(2, 0, api.HLeft), true},
		{"left, the greatest incarnation", claim(2, api.MaxInc, api.HLeft), true},
		{"left, too great an incarnation", claim(2, api.MaxInc+1, api.HLeft), false},
		{"too great an incarnation", claim(2, api.MaxInc+1, api.HAlive), false},
		{"a negative incarnation", claim(2, -1, api.HDead), false},
		{"a negative health", claim(2, 5, -1), false},
		{"a health after the last", claim(2, 5, api.HLeft+1), false},
		{"a health after the last, without an incarnation", claim(2, 0, api.HLeft+1), false},
		{"a node after the last", claim(api.Nodes, 0, api.HAlive), false},
		{"a negative node", claim(-1, 0, api.HAlive), false},
		{"nothing is said of what is no node", claim(api.Nodes, 0, api.HNone), false},
		{"nothing is said of a negative node", claim(-1, 0, api.HNone), false},
		{"all numbers as great as can be", claim(math.MaxInt, math.MaxInt, math.MaxInt), false},
		{"all numbers as small as can be", claim(math.MinInt, math.MinInt, math.MinInt), false},
	} {
		if got := health.May(x.c); got != x.want {
			t.Errorf("%s: May(%v) = %v", x.name, x.c, got)
		}
	}
}

// P1.1
func TestMayOfEveryEdge(t *testing.T) {
	for _, c := range everyClaim(numbers(), numbers(), numbers()) {
		isNode := c.Node >= 0 && c.Node <= 7
		told := c.Inc >= 0 && c.Inc <= 1000000 && c.Health >= 1 && c.Health <= 4
		nothing := c.Inc == 0 && c.Health == 0
		if got, want := health.May(c), isNode && (told || nothing); got != want {
			t.Errorf("May(%v) = %v", c, got)
		}
	}
}

// P1.1
func TestCompare(t *testing.T) {
	for _, x := range []struct {
		name string
		a, b api.Claim
		want int
	}{
		{"nothing and alive", claim(1, 0, api.HNone), claim(1, 0, api.HAlive), -1},
		{"alive and suspect", claim(1, 4, api.HAlive), claim(1, 4, api.HSuspect), -1},
		{"suspect and dead", claim(1, 4, api.HSuspect), claim(1, 4, api.HDead), -1},
		{"dead and left", claim(1, 4, api.HDead), claim(1, 4, api.HLeft), -1},
		{"a greater incarnation outweighs health", claim(1, 4, api.HDead), claim(1, 5, api.HAlive), -1},
		{"left outweighs any incarnation", claim(1, api.MaxInc, api.HDead), claim(1, 0, api.HLeft), -1},
		{"left outweighs an invalid incarnation", claim(1, math.MaxInt, api.HDead), claim(1, math.MinInt, api.HLeft), -1},
		{"left outweighs an invalid health", claim(1, 0, math.MaxInt), claim(1, 0, api.HLeft), -1},
		{"left twice, with different incarnations", claim(1, 0, api.HLeft), claim(1, 9, api.HLeft), 0},
		{"the same", claim(1, 4, api.HSuspect), claim(1, 4, api.HSuspect), 0},
		{"other nodes", claim(1, 4, api.HSuspect), claim(6, 4, api.HSuspect), 0},
		{"what are no nodes", claim(-1, 4, api.HSuspect), claim(99, 4, api.HSuspect), 0},
		{"incarnations far apart", claim(1, math.MinInt, api.HAlive), claim(1, math.MaxInt, api.HAlive), -1},
		{"healths far apart", claim(1, 0, math.MinInt), claim(1, 0, math.MaxInt), -1},
	} {
		if got := health.Compare(x.a, x.b); got != x.want {
			t.Errorf("%s: Compare(%v, %v) = %d", x.name, x.a, x.b, got)
		}
		if got := health.Compare(x.b, x.a); got != -x.want {
			t.Errorf("%s: Compare(%v, %v) = %d", x.name, x.b, x.a, got)
		}
	}
}

// P1.1
func TestLouder(t *testing.T) {
	for _, x := range []struct {
		name       string
		a, b, want api.Claim
	}{
		{"b is greater", claim(1, 4, api.HAlive), claim(1, 4, api.HDead), claim(1, 4, api.HDead)},
		{"a is greater", claim(1, 5, api.HAlive), claim(1, 4, api.HDead), claim(1, 5, api.HAlive)},
		{"equal, of other nodes", claim(1, 4, api.HDead), claim(2, 4, api.HDead), claim(1, 4, api.HDead)},
		{"equal, both left", claim(1, 3, api.HLeft), claim(1, 9, api.HLeft), claim(1, 3, api.HLeft)},
		{"b left", claim(1, 9, api.HDead), claim(1, 0, api.HLeft), claim(1, 0, api.HLeft)},
		{"a left", claim(1, 0, api.HLeft), claim(1, 9, api.HDead), claim(1, 0, api.HLeft)},
		{"neither is valid", claim(-1, -1, 9), claim(77, -2, 9), claim(-1, -1, 9)},
	} {
		if got := health.Louder(x.a, x.b); got != x.want {
			t.Errorf("%s: Louder(%v, %v) = %v", x.name, x.a, x.b, got)
		}
	}
}

// P1.2
func TestRefute(t *testing.T) {
	const top = api.MaxInc
	for _, x := range []struct {
		name      string
		self, inc int
		c         api.Claim
		want      int
		err       api.Errno
	}{
		{"suspected", 3, 5, claim(3, 5, api.HSuspect), 6, api.OK},
		{"held to be dead", 3, 5, claim(3, 5, api.HDead), 6, api.OK},
		{"suspected with the first incarnation", 0, 0, claim(0, 0, api.HSuspect), 1, api.OK},
		{"suspected with an incarnation to come", 3, 5, claim(3, 8, api.HSuspect), 9, api.OK},
		{"up to the greatest incarnation", 7, 0, claim(7, top-1, api.HDead), top, api.OK},
		{"suspected with an elder incarnation", 3, 5, claim(3, 4, api.HSuspect), 5, api.OK},
		{"dead with an elder incarnation", 3, 5, claim(3, 0, api.HDead), 5, api.OK},
		{"an elder incarnation, at the greatest", 3, top, claim(3, top-1, api.HDead), top, api.OK},
		{"about another node", 3, 5, claim(4, 5, api.HDead), 5, api.OK},
		{"about another node, at the greatest", 3, 5, claim(4, top, api.HDead), 5, api.OK},
		{"nothing is said", 3, 0, claim(3, 0, api.HNone), 0, api.OK},
		{"alive with a greater incarnation", 3, 5, claim(3, 8, api.HAlive), 5, api.OK},
		{"alive with the greatest incarnation", 3, 5, claim(3, top, api.HAlive), 5, api.OK},
		{"left", 3, 5, claim(3, 5, api.HLeft), 5, api.OK},
		{"left with the greatest incarnation", 3, 5, claim(3, top, api.HLeft), 5, api.OK},
		{"over: suspected", 3, top, claim(3, top, api.HSuspect), top, api.ErrOver},
		{"over: dead", 3, top, claim(3, top, api.HDead), top, api.ErrOver},
		{"over: from a smaller incarnation", 3, 5, claim(3, top, api.HDead), 5, api.ErrOver},
		{"self is negative", -1, 5, claim(3, 5, api.HDead), 0, api.ErrArg},
		{"self is after the last node", api.Nodes, 5, claim(3, 5, api.HDead), 0, api.ErrArg},
		{"inc is negative", 3, -1, claim(3, 5, api.HDead), 0, api.ErrArg},
		{"inc is too great", 3, top + 1, claim(3, 5, api.HDead), 0, api.ErrArg},
		{"inc is too great, about another node", 3, top + 1, claim(4, 5, api.HDead), 0, api.ErrArg},
		{"the node of c is none", 3, 5, claim(api.Nodes, 5, api.HDead), 0, api.ErrArg},
		{"the incarnation of c is too great", 3, 5, claim(3, top+1, api.HDead), 0, api.ErrArg},
		{"the incarnation of c is negative", 3, 5, claim(3, -1, api.HDead), 0, api.ErrArg},
		{"the health of c is none", 3, 5, claim(3, 5, api.HLeft+1), 0, api.ErrArg},
		{"c says nothing, with an incarnation", 3, 5, claim(3, 5, api.HNone), 0, api.ErrArg},
		{"ErrArg comes before ErrOver", 3, -1, claim(3, top, api.HDead), 0, api.ErrArg},
		{"the greatest of all numbers", 3, 5, claim(3, math.MaxInt, api.HDead), 0, api.ErrArg},
	} {
		got, err := health.Refute(x.self, x.inc, x.c)
		if got != x.want || err != x.err {
			t.Errorf("%s: Refute(%d, %d, %v) = %d, %d", x.name, x.self, x.inc, x.c, got, err)
		}
	}
}

// P1.3
func TestText(t *testing.T) {
	for _, x := range []struct {
		c    api.Claim
		want string
	}{
		{claim(0, 0, api.HNone), "0:-"},
		{claim(7, 0, api.HNone), "7:-"},
		{claim(3, 0, api.HAlive), "3:alive@0"},
		{claim(3, 2, api.HSuspect), "3:suspect@2"},
		{claim(1, 41, api.HDead), "1:dead@41"},
		{claim(6, api.MaxInc, api.HAlive), "6:alive@1000000"},
		{claim(5, 0, api.HLeft), "5:left"},
		{claim(5, 12, api.HLeft), "5:left"},
		{claim(-1, 0, api.HNone), ""},
		{claim(api.Nodes, 2, api.HSuspect), ""},
		{claim(3, 1, api.HNone), ""},
		{claim(3, -1, api.HAlive), ""},
		{claim(3, api.MaxInc+1, api.HLeft), ""},
		{claim(3, 2, -1), ""},
		{claim(3, 2, api.HLeft+1), ""},
	} {
		if got := health.Text(x.c); got != x.want {
			t.Errorf("Text(%v) = %q", x.c, got)
		}
	}
}

// P1.3
func TestTextOfEveryEdge(t *testing.T) {
	for _, c := range everyClaim(numbers(), numbers(), numbers()) {
		text := health.Text(c)
		if (text != "") != health.May(c) {
			t.Errorf("Text(%v) = %q", c, text)
		}
		if text != "" && !strings.HasPrefix(text, strconv.Itoa(c.Node)+":") {
			t.Errorf("Text(%v) = %q", c, text)
		}
	}
}

// P1.4
func TestCompareIsAnOrder(t *testing.T) {
	incs := []int{math.MinInt, -1, 0, 1, 5, api.MaxInc, math.MaxInt}
	statuses := []int{math.MinInt, -1, 0, 1, 2, 3, 4, 5, math.MaxInt}
	l := everyClaim([]int{2, 3}, incs, statuses)
	for _, a := range l {
		if health.Compare(a, a) != 0 {
			t.Errorf("%v is not equal to itself", a)
		}
		for _, b := range l {
			ab := health.Compare(a, b)
			if ab < -1 || ab > 1 || ab != -health.Compare(b, a) {
				t.Errorf("Compare(%v, %v) = %d", a, b, ab)
			}
			for _, c := range l {
				bc := health.Compare(b, c)
				if ab <= 0 && bc <= 0 && health.Compare(a, c) != min(ab, bc) {
					t.Errorf("%v, %v, %v are not in order", a, b, c)
				}
			}
		}
	}
}

// P1.4
func TestLouderIsTheGreater(t *testing.T) {
	l := everyClaim([]int{2, 3}, numbers(), numbers())
	for _, a := range l {
		for _, b := range l {
			want := a
			if health.Compare(a, b) < 0 {
				want = b
			}
			if got := health.Louder(a, b); got != want {
				t.Errorf("Louder(%v, %v) = %v", a, b, got)
			}
		}
	}
}

// P1.4, T4
func TestRefutationIsGreater(t *testing.T) {
	refuted := 0
	for _, inc := range numbers() {
		for _, c := range everyClaim([]int{2, 3}, numbers(), numbers()) {
			next, err := health.Refute(3, inc, c)
			if err != api.OK || next == inc {
				continue
			}
			refuted++
			answer := claim(3, next, api.HAlive)
			if next < inc || !health.May(answer) || health.Compare(answer, c) != 1 {
				t.Errorf("Refute(3, %d, %v) = %d", inc, c, next)
			}
		}
	}
	if refuted == 0 {
		t.Error("nothing was refuted")
	}
}

// P1.4, T4: whoever is accused with the incarnation that it has, or a later one, refutes it.
func TestWhoIsAccusedRefutes(t *testing.T) {
	for _, status := range []int{api.HSuspect, api.HDead} {
		for inc := range 20 {
			for said := range 20 {
				next, err := health.Refute(3, inc, claim(3, said, status))
				alive := claim(3, next, api.HAlive)
				if err != api.OK || health.Compare(alive, claim(3, said, status)) != 1 {
					t.Errorf("inc %d, said %d: %d, %d", inc, said, next, err)
				}
			}
		}
	}
}
