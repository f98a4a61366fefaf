// Package health compares claims, which are what somebody says of a node: see ../../shared/doc/01-health.md.
package health

import (
	"cmp"
	"strconv"

	"starling/api"
)

// May reports whether c is valid.
func May(c api.Claim) bool {
	if !isNode(c.Node) {
		return false
	}
	if c.Health == api.HNone {
		return saysNothing(c)
	}
	return isInc(c.Inc) && api.HAlive <= c.Health && c.Health <= api.HLeft
}

// Compare returns -1, 0 or 1, by what a and b say, whichever node it is about.
func Compare(a, b api.Claim) int {
	aLeft, bLeft := a.Health == api.HLeft, b.Health == api.HLeft
	switch {
	case aLeft && bLeft:
		// A node leaves once, so it does not matter with which incarnation.
		return 0
	case aLeft:
		return 1
	case bLeft:
		return -1
	}
	return cmp.Or(cmp.Compare(a.Inc, b.Inc), cmp.Compare(a.Health, b.Health))
}

// Louder returns the greater one of a and b, and a if they are equal.
func Louder(a, b api.Claim) api.Claim {
	if Compare(b, a) > 0 {
		return b
	}
	return a
}

// Refute returns the incarnation that self, whose incarnation was inc, must
// have from now on, so that its claim to be alive is greater than c.
func Refute(self int, inc int, c api.Claim) (int, api.Errno) {
	if !isNode(self) || !isInc(inc) || !May(c) {
		return 0, api.ErrArg
	}
	if c.Node != self || !accuses(c) || c.Inc < inc {
		return inc, api.OK
	}
	if c.Inc >= api.MaxInc {
		return inc, api.ErrOver
	}
	return c.Inc + 1, api.OK
}

// Text returns the text of c, which is empty if c is not valid.
func Text(c api.Claim) string {
	if !May(c) {
		return ""
	}
	return strconv.Itoa(c.Node) + ":" + said(c)
}

// said returns the part of the text of a valid claim that follows the colon.
func said(c api.Claim) string {
	switch c.Health {
	case api.HAlive:
		return withInc("alive", c.Inc)
	case api.HSuspect:
		return withInc("suspect", c.Inc)
	case api.HDead:
		return withInc("dead", c.Inc)
	case api.HLeft:
		return "left"
	}
	return "-"
}

func withInc(word string, inc int) string {
	return word + "@" + strconv.Itoa(inc)
}

// accuses reports whether c is one of the claims that a living node refutes.
func accuses(c api.Claim) bool {
	return c.Health == api.HSuspect || c.Health == api.HDead
}

func saysNothing(c api.Claim) bool {
	return c == api.Claim{Node: c.Node}
}

func isNode(n int) bool {
	return 0 <= n && n < api.Nodes
}

func isInc(n int) bool {
	return 0 <= n && n <= api.MaxInc
}
