package float

import (
	"math"
	"strconv"
	"strings"
)

// The words and marks of a float's text.
const (
	nanWord   = "nan"
	infWord   = "inf"
	minusInf  = "-inf"
	hexMark   = "0x"
	hexDigits = 16
	point     = "."
	minusZero = 1 << 63
)

// Print answers the one text of u's canonical form.
func Print(u uint64) string {
	f := math.Float64frombits(u)
	switch {
	case isNaN(u):
		return nanWord
	case math.IsInf(f, 1):
		return infWord
	case math.IsInf(f, -1):
		return minusInf
	case u == minusZero:
		return "-0" + point // its number is 0, which has lost the sign
	}
	if n, whole := ToInt(u); whole {
		return strconv.Itoa(n) + point
	}
	digits := strconv.FormatUint(u, 16)
	return hexMark + strings.Repeat("0", hexDigits-len(digits)) + digits
}

// Parse answers the float whose text is s, and false if there is none.
func Parse(s string) (uint64, bool) {
	u, ok := read(s)
	// read takes texts that Print never writes: a float has one text alone.
	if !ok || Print(u) != s {
		return 0, false
	}
	return u, true
}

// read answers the float that s can only be the text of, if it is one's.
func read(s string) (uint64, bool) {
	switch s {
	case nanWord:
		return canonicalNaN, true
	case infWord:
		return math.Float64bits(math.Inf(1)), true
	case minusInf:
		return math.Float64bits(math.Inf(-1)), true
	case "-0" + point:
		return minusZero, true
	}
	if digits, ok := strings.CutPrefix(s, hexMark); ok {
		u, err := strconv.ParseUint(digits, 16, 64)
		return u, err == nil
	}
	digits, ok := strings.CutSuffix(s, point)
	if !ok {
		return 0, false
	}
	n, err := strconv.Atoi(digits)
	if err != nil {
		return 0, false
	}
	return FromInt(n)
}
