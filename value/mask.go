package value

import "strongroom/api"

// RightMask answers whether a column of kind k may have the mask m.
func RightMask(m api.Mask, k api.Kind) bool {
	if k <= api.Null || k > api.Float {
		return false
	}
	switch m.Kind {
	case api.Keep, api.Hide, api.Zero:
		return m.N == 0
	case api.Head:
		return k == api.Bytes && m.N >= 0 && m.N <= api.MaxBytes
	}
	return false
}

// Mask answers what m leaves of v. What it doesn't know it hides.
func Mask(v api.Value, m api.Mask) api.Value {
	v = rightOrNull(v)
	switch m.Kind {
	case api.Keep:
		return v
	case api.Zero:
		return api.Value{Kind: v.Kind} // the nought of each kind has no field but its kind
	case api.Head:
		return head(v, max(m.N, 0))
	}
	return api.Value{}
}

// head answers v with its first n bytes, and Null if v isn't Bytes.
func head(v api.Value, n int) api.Value {
	if v.Kind != api.Bytes {
		return api.Value{}
	}
	return api.Value{Kind: api.Bytes, S: v.S[:min(n, len(v.S))]}
}
