package syntax

import (
	"math"

	"gatepost/api"
)

// Depth is how many levels a tree has. It goes level by level, as a tree that no tokens stand for may be deeper than calls can go: and one that holds itself has the greatest depth there is.
func Depth(e Expr) int {
	found := map[*Expr]int{} // the level that each part was found on last
	level, depth := []*Expr{&e}, 0
	for len(level) > 0 {
		depth++
		// The way down here has a part for each level but the first: it comes to one of them twice, if there are not so many.
		if depth > len(found)+1 {
			return math.MaxInt
		}
		var below []*Expr
		for _, whole := range level {
			for i := range whole.Parts {
				part := &whole.Parts[i]
				if found[part] != depth {
					found[part] = depth
					below = append(below, part)
				}
			}
		}
		level = below
	}
	return depth
}

// Same is whether a and b are the same trees.
func Same(a, b Expr) bool {
	return same([]Expr{a}, []Expr{b}, alike, func(e Expr) []Expr { return e.Parts })
}

// alike is whether two trees are the same but for their parts.
func alike(a, b Expr) bool {
	return a.Op == b.Op && a.Who == b.Who && a.Name == b.Name && sameValue(a.V, b.V)
}

// sameValue is whether a and b are the same values, be they formed or not.
func sameValue(a, b api.Value) bool {
	return same([]api.Value{a}, []api.Value{b}, alikeValue, func(v api.Value) []api.Value { return v.L })
}

// alikeValue is whether two values are the same but for those within.
func alikeValue(a, b api.Value) bool {
	return a.Kind == b.Kind && a.I == b.I && a.S == b.S
}

// couple is two lists that stand at one place of two trees.
type couple[T any] struct {
	a, b []T
}

// same is whether two lists of trees are the same: which are alike but for their parts, and what their parts are, is asked. Two members are held against each other once alone, as trees may hold themselves.
func same[T any](a, b []T, alike func(a, b T) bool, parts func(T) []T) bool {
	held := map[[2]*T]struct{}{}
	for wait := []couple[T]{{a, b}}; len(wait) > 0; {
		last := wait[len(wait)-1]
		wait = wait[:len(wait)-1]
		if len(last.a) != len(last.b) {
			return false
		}
		for i := range last.a {
			two := [2]*T{&last.a[i], &last.b[i]}
			if _, again := held[two]; again {
				continue
			}
			held[two] = struct{}{}
			if !alike(last.a[i], last.b[i]) {
				return false
			}
			wait = append(wait, couple[T]{parts(last.a[i]), parts(last.b[i])})
		}
	}
	return true
}
