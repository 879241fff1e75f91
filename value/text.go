package value

import (
	"strconv"
	"strings"

	"strongroom/api"
	"strongroom/float"
)

// The words and marks of a value's text.
const (
	nullWord  = "null"
	falseWord = "false"
	trueWord  = "true"
	bytesMark = "x"
	hexDigits = "0123456789abcdef"
)

// Print answers the one text of v.
func Print(v api.Value) string {
	v = rightOrNull(v)
	switch v.Kind {
	case api.Int:
		return strconv.Itoa(v.N)
	case api.Bool:
		return boolWord(v.N)
	case api.Bytes:
		return bytesMark + toHex(v.S)
	case api.Float:
		return float.Print(v.F)
	}
	return nullWord
}

// Parse answers the value whose text is s, and false if there is none.
func Parse(s string) (api.Value, bool) {
	v, ok := read(s)
	// read takes texts that Print never writes: a value has one text alone.
	if !ok || Print(v) != s {
		return api.Value{}, false
	}
	return v, true
}

// read answers the value that s can only be the text of, if it is one's.
func read(s string) (api.Value, bool) {
	switch s {
	case nullWord:
		return api.Value{}, true
	case falseWord:
		return api.Value{Kind: api.Bool, N: 0}, true
	case trueWord:
		return api.Value{Kind: api.Bool, N: 1}, true
	}
	if digits, ok := strings.CutPrefix(s, bytesMark); ok {
		text, ok := fromHex(digits)
		return api.Value{Kind: api.Bytes, S: text}, ok
	}
	if n, err := strconv.Atoi(s); err == nil {
		return api.Value{Kind: api.Int, N: n}, true
	}
	u, ok := float.Parse(s)
	return api.Value{Kind: api.Float, F: u}, ok
}

func boolWord(n int) string {
	if n == 0 {
		return falseWord
	}
	return trueWord
}

// toHex answers two digits for each byte of s.
func toHex(s string) string {
	out := make([]byte, 0, 2*len(s))
	for i := range len(s) {
		out = append(out, hexDigits[s[i]>>4], hexDigits[s[i]&15])
	}
	return string(out)
}

// fromHex answers the bytes whose digits are s, and false if they are none's.
func fromHex(s string) (string, bool) {
	if len(s)%2 != 0 || len(s) > 2*api.MaxBytes {
		return "", false
	}
	out := make([]byte, 0, len(s)/2)
	for i := 0; i < len(s); i += 2 {
		high, low := strings.IndexByte(hexDigits, s[i]), strings.IndexByte(hexDigits, s[i+1])
		if high < 0 || low < 0 {
			return "", false
		}
		out = append(out, byte(high<<4|low))
	}
	return string(out), true
}
