package heapmap

import "strconv"

// maxSigns is how many signs a text may have that Unpack answers.
const maxSigns = 65536

// Pack is a text with each row of one sign as its count and the sign; nothing of a text with a digit.
func Pack(s string) string {
	var packed []byte
	for first := 0; first < len(s); {
		sign := s[first]
		if isDigit(sign) {
			return ""
		}
		n := rowLen(s[first:])
		if n > 1 {
			packed = strconv.AppendInt(packed, int64(n), 10)
		}
		packed = append(packed, sign)
		first += n
	}
	return string(packed)
}

// Unpack is the text whose Pack is s; false if there is none, or if it has too many signs.
func Unpack(s string) (string, bool) {
	text, ok := spread(s)
	// Rows that could be one, counts that are written in another way, and one without a sign: in all these cases the
	// text's own Pack differs.
	if !ok || Pack(text) != s {
		return "", false
	}
	return text, true
}

// spread is a text with each count and sign as a row; false if it grows too long.
func spread(s string) (string, bool) {
	var text []byte
	count := 0
	for i := range len(s) {
		if isDigit(s[i]) {
			// A count that is too great stays so, however many digits it has.
			count = min(10*count+int(s[i]-'0'), maxSigns+1)
			continue
		}
		row := max(count, 1)
		if len(text)+row > maxSigns {
			return "", false
		}
		for range row {
			text = append(text, s[i])
		}
		count = 0
	}
	return string(text), true
}

// rowLen is how many signs a text begins with that are the same as its first one.
func rowLen(s string) int {
	n := 0
	for n < len(s) && s[n] == s[0] {
		n++
	}
	return n
}

func isDigit(sign byte) bool {
	return sign >= '0' && sign <= '9'
}
