package value

import "strongroom/api"

// Not answers the other one of Yes and No; what is unknown stays so.
func Not(a api.Truth) api.Truth {
	switch a {
	case api.No:
		return api.Yes
	case api.Yes:
		return api.No
	}
	return api.Unknown
}

// And answers Yes if both are, and No if one is, whatever the other may be.
func And(a, b api.Truth) api.Truth {
	if a == api.No || b == api.No {
		return api.No
	}
	if a == api.Yes && b == api.Yes {
		return api.Yes
	}
	return api.Unknown
}

// Or answers No if both are, and Yes if one is, whatever the other may be.
func Or(a, b api.Truth) api.Truth {
	return Not(And(Not(a), Not(b)))
}
