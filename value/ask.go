package value

import (
	"slices"

	"gatepost/api"
)

// In is whether v is one of the bag's values.
func In(v, bag api.Value) (bool, api.Errno) {
	if !Formed(v) || !Formed(bag) {
		return false, api.ErrArg
	}
	if bag.Kind != kindBag || v.Kind == kindNone || v.Kind == kindBag {
		return false, api.ErrType
	}
	// A formed bag's values have one kind: the first one's is all the others'.
	if len(bag.L) > 0 && bag.L[0].Kind != v.Kind {
		return false, api.ErrType
	}
	_, found := slices.BinarySearchFunc(bag.L, v, orderAlone)
	return found, api.OK
}

// Compare is whether a op b, by the order of values.
func Compare(op string, a, b api.Value) (bool, api.Errno) {
	if !Formed(a) || !Formed(b) {
		return false, api.ErrArg
	}
	is, known := holds(op, Order(a, b))
	if !known {
		return false, api.ErrArg
	}
	if a.Kind == kindNone || a.Kind != b.Kind {
		return false, api.ErrType
	}
	if (a.Kind == kindTruth || a.Kind == kindBag) && op != "==" && op != "!=" {
		return false, api.ErrType
	}
	return is, api.OK
}

// holds is whether op is true of two values in that order, and whether there is such an op.
func holds(op string, order int) (is, known bool) {
	switch op {
	case "==":
		return order == 0, true
	case "!=":
		return order != 0, true
	case "<":
		return order < 0, true
	case "<=":
		return order <= 0, true
	case ">":
		return order > 0, true
	case ">=":
		return order >= 0, true
	}
	return false, false
}
