// Package field is layer 1: numbers and texts as bytes that stand in their order.
package field

import (
	"slices"

	"rollbook/api"
)

const (
	maxSize  = 8     // bytes of a number
	textSize = 2     // bytes of a text's length
	maxText  = 65535 // bytes, since more have no length of textSize
	maxParts = 16
	maxTuple = 4096 // bytes
	greatest = 255  // of all bytes
)

// A nought within a part is followed by 255, its end is a nought and 1: the end is below all that may stand in its place, so a part stands ahead of those that it is the beginning of.
const (
	nought  = 0
	ended   = 1
	escaped = 255
)

// Put lays a number behind a text.
func Put(s string, n uint64, size int) (string, api.Errno) {
	if !sized(size) || n>>(8*size) != 0 {
		return "", api.ErrArg
	}
	b := []byte(s)
	for i := size - 1; i >= 0; i-- {
		b = append(b, byte(n>>(8*i)))
	}
	return string(b), api.OK
}

// sized: may a number have so many bytes?
func sized(size int) bool {
	return size >= 1 && size <= maxSize
}

// Take: a number of a text.
func Take(s string, at int, size int) (uint64, api.Errno) {
	if !sized(size) || at < 0 {
		return 0, api.ErrArg
	}
	// Not at+size > len(s): that sum may go round.
	if len(s)-at < size {
		return 0, api.ErrShort
	}
	n := uint64(0)
	for i := range size {
		n = n<<8 | uint64(s[at+i])
	}
	return n, api.OK
}

// Text lays a text with its length behind a text.
func Text(s string, t string) (string, api.Errno) {
	if len(t) > maxText {
		return "", api.ErrLong
	}
	u, e := Put(s, uint64(len(t)), textSize)
	return u + t, e
}

// TakeText: a text of a text, and the place behind it.
func TakeText(s string, at int) (string, int, api.Errno) {
	n, e := Take(s, at, textSize)
	if e != api.OK {
		return "", 0, e
	}
	from := at + textSize
	to := from + int(n)
	if to > len(s) {
		return "", 0, api.ErrShort
	}
	return s[from:to], to, api.OK
}

// Tuple: parts as one text.
func Tuple(parts []string) (string, api.Errno) {
	if len(parts) > maxParts {
		return "", api.ErrArg
	}
	var b []byte
	for _, p := range parts {
		// Laid, a part is never shorter than it is: what is too long isn't laid at all.
		if len(p) > maxTuple {
			return "", api.ErrLong
		}
		b = appendPart(b, p)
	}
	if len(b) > maxTuple {
		return "", api.ErrLong
	}
	return string(b), api.OK
}

func appendPart(b []byte, part string) []byte {
	for i := range len(part) {
		b = append(b, part[i])
		if part[i] == nought {
			b = append(b, escaped)
		}
	}
	return append(b, nought, ended)
}

// Parts: the list of a tuple.
func Parts(s string) ([]string, api.Errno) {
	if len(s) > maxTuple {
		return nil, api.ErrForm
	}
	var parts []string
	for at := 0; at < len(s); {
		part, behind, ok := takePart(s, at)
		if !ok || len(parts) == maxParts {
			return nil, api.ErrForm
		}
		parts = append(parts, part)
		at = behind
	}
	return parts, api.OK
}

// takePart: the part that is laid at a place, and the place behind its end.
func takePart(s string, at int) (string, int, bool) {
	var part []byte
	for i := at; i < len(s); i++ {
		if s[i] != nought {
			part = append(part, s[i])
			continue
		}
		i++
		if i < len(s) && s[i] == ended {
			return string(part), i + 1, true
		}
		if i == len(s) || s[i] != escaped {
			return "", 0, false
		}
		part = append(part, nought)
	}
	return "", 0, false
}

// After: the least text behind all with a beginning.
func After(s string) (string, bool) {
	n := len(s)
	for n > 0 && s[n-1] == greatest {
		n--
	}
	if n == 0 {
		return "", false
	}
	b := []byte(s[:n])
	b[n-1]++
	return string(b), true
}

// Compare: two lists of parts.
func Compare(a []string, b []string) int {
	return slices.Compare(a, b)
}
