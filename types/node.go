package types

import "spillway/api"

// node: an expression all of whose kids have types.
type node struct {
	api.Expr
	types []int // of its kids, one each
}

// typeOf: of what is an expression; or a fault. A call's name is asked ahead of its kid; all else only once the kids are right by themselves.
func typeOf(e api.Expr) (int, error) {
	if e.Kind == api.ECall && !Known(e.Name) {
		return 0, refused(e, api.ErrName)
	}
	types, err := typesOf(e.Kids)
	if err != nil {
		return 0, err
	}
	n := node{e, types}
	if err := n.misfit(); err != nil {
		return 0, err
	}
	return n.is(), nil
}

// typesOf: of all of them; or the fault of the first one that has one.
func typesOf(l []api.Expr) ([]int, error) {
	types := []int{}
	for _, e := range l {
		is, err := typeOf(e)
		if err != nil {
			return nil, err
		}
		types = append(types, is)
	}
	return types, nil
}

// misfit: the fault of a kid that it can't take, or of kids that it can't take together; nil, if there is none.
func (n node) misfit() error {
	for i, kid := range n.Kids {
		if !n.takes(n.types[i]) {
			return refused(kid, api.ErrType)
		}
	}
	if n.Kind == api.EBin && !n.joins() {
		return refused(n.Expr, api.ErrType)
	}
	return nil
}

// takes: whether it can have a kid of that type.
func (n node) takes(is int) bool {
	switch n.Kind {
	case api.ECall:
		return is == api.Ranged
	case api.EAgg:
		return is == api.Vector
	}
	return is == api.Scalar || is == api.Vector
}

// joins: whether it can have these two kids together.
func (n node) joins() bool {
	if n.On || n.Ign {
		return n.allAre(api.Vector)
	}
	return !isComparison(n.Name) || !n.allAre(api.Scalar)
}

// allAre: whether each kid is of that type.
func (n node) allAre(is int) bool {
	for _, kid := range n.types {
		if kid != is {
			return false
		}
	}
	return true
}

// is: the type of what has no misfit.
func (n node) is() int {
	switch n.Kind {
	case api.ENum:
		return api.Scalar
	case api.ESel:
		if n.Range > 0 {
			return api.Ranged
		}
	case api.EBin, api.ENeg:
		if n.allAre(api.Scalar) {
			return api.Scalar
		}
	}
	return api.Vector
}

func isComparison(sign string) bool {
	switch sign {
	case ">", "<", ">=", "<=", "==", "!=":
		return true
	}
	return false
}
