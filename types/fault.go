package types

import "spillway/api"

// place: where an expression stands. An error embeds the place of what it is told of.
type place struct{ at int }

// fault: why an expression has no type, and where. Its number makes it an error, so that faults come up from kids beside their types.
type fault struct {
	place
	api.Errno
}

func refused(e api.Expr, why api.Errno) error {
	return fault{place{e.At}, why}
}
