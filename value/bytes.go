package value

import (
	"strongroom/api"
	"strongroom/pack"
)

// floatBytes is how many bytes a float has.
const floatBytes = 8

// Put answers b's bytes and behind them those of v.
func Put(b []byte, v api.Value) []byte {
	v = rightOrNull(v)
	// Without spare room b's bytes move to memory of their own: what the
	// caller has behind b stays as it is.
	out := append(b[:len(b):len(b)], byte(v.Kind))
	switch v.Kind {
	case api.Int:
		return pack.Number(out, v.N)
	case api.Bool:
		return append(out, byte(v.N))
	case api.Bytes:
		return pack.Text(out, v.S)
	case api.Float:
		return addFloat(out, v.F)
	}
	return out
}

// Get answers the value that stands next in r, and false if none does.
func Get(r *pack.Reader) (api.Value, bool) {
	kind, ok := r.Byte()
	if !ok {
		return api.Value{}, false
	}
	v := api.Value{Kind: api.Kind(kind)}
	switch v.Kind {
	case api.Int:
		v.N, ok = r.Number()
	case api.Bool:
		var n byte
		n, ok = r.Byte()
		v.N = int(n)
	case api.Bytes:
		v.S, ok = r.Text()
	case api.Float:
		v.F, ok = getFloat(r)
	}
	// Bytes may be there in their form and yet be no right value's.
	if !ok || !Right(v) {
		return api.Value{}, false
	}
	return v, true
}

// addFloat appends to out, which must be the caller's own memory.
func addFloat(out []byte, u uint64) []byte {
	for i := range floatBytes {
		out = append(out, byte(u>>(8*i)))
	}
	return out
}

func getFloat(r *pack.Reader) (uint64, bool) {
	var u uint64
	for i := range floatBytes {
		c, ok := r.Byte()
		if !ok {
			return 0, false
		}
		u |= uint64(c) << (8 * i)
	}
	return u, true
}
