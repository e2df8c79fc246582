package delta

import "galley/api"

// Which kinds may stand at a place of a canonical delta.
const (
	keeps = 1 << iota
	puts
	drops
)

// turn: the kind as one of those above (of none of the three nothing), and which ones may stand directly behind it.
func turn(k api.OpKind) (this, next int) {
	switch k {
	case api.Keep:
		return keeps, puts | drops
	case api.Put:
		return puts, keeps | drops
	case api.Drop:
		return drops, keeps
	}
	return 0, 0
}

// known: is each operation of one of the three kinds, and none of a number below 0?
func known(d api.Delta) bool {
	for _, op := range d {
		if this, _ := turn(op.Kind); this == 0 || op.Kind != api.Put && op.N < 0 {
			return false
		}
	}
	return true
}

// plain: does each operation do something, and say nothing that its kind has no use for?
func plain(d api.Delta) bool {
	for _, op := range d {
		if op.Kind == api.Put && (op.Text == "" || op.N != 0) {
			return false
		}
		if op.Kind != api.Put && (op.Text != "" || op.N < 1) {
			return false
		}
	}
	return true
}

// apart: is each operation of a kind that may stand behind the one ahead of it?
func apart(d api.Delta) bool {
	may := keeps | puts | drops
	for _, op := range d {
		this, next := turn(op.Kind)
		if may&this == 0 {
			return false
		}
		may = next
	}
	return true
}

// checked: what can be wrong with changes of n bytes, but for the length of what they make.
func checked(n int, cs []api.Change) api.Errno {
	if n < 0 || n > api.MaxText {
		return api.ErrRange
	}
	for _, c := range cs {
		if c.Lo < 0 || c.Lo > c.Hi || c.Hi > n {
			return api.ErrRange
		}
	}
	for i := 1; i < len(cs); i++ {
		if cs[i].Lo < cs[i-1].Hi {
			return api.ErrCross
		}
	}
	return api.OK
}
