// Package name is layer 1: names and strings, gone over rune by rune.
package name

import (
	"cmp"
	"strconv"
	"strings"
	"unicode/utf8"

	"spoor/api"
)

// Right: may it be a name?
func Right(s string) bool {
	n := 0
	for _, r := range s {
		n++
		// The rune fffd is no name's, so bytes that are no UTF-8 fall out here, too.
		if n > api.MaxName || !inName(r) {
			return false
		}
	}
	return n > 0
}

// inName tells whether a name may have the rune.
func inName(r rune) bool {
	switch {
	case r >= 'a' && r <= 'z', r >= 'A' && r <= 'Z', r >= '0' && r <= '9':
		return true
	}
	return r == '-' || r >= 0xc0 && r <= 0x24f
}

// Count: how many runes it has.
func Count(s string) int {
	n := 0
	for range s {
		n++
	}
	return n
}

// Cut: its first n runes.
func Cut(s string, n int) string {
	if n < 1 {
		return ""
	}
	for i := range s {
		if n == 0 {
			return s[:i]
		}
		n--
	}
	return s
}

// Valid: is it UTF-8?
func Valid(s string) bool {
	for i, r := range s {
		if broken(s[i:], r) {
			return false
		}
	}
	return true
}

// broken tells whether s, whose first rune is r, begins with a byte that is no UTF-8. The rune alone doesn't tell: a text may spell fffd out.
func broken(s string, r rune) bool {
	return r == utf8.RuneError && !strings.HasPrefix(s, "\uFFFD")
}

// Quote: any bytes as a text.
func Quote(s string) string {
	out := make([]byte, 0, len(s))
	for i, r := range s {
		switch {
		case broken(s[i:], r):
			out = append(out, '\\', 'x', digit(s[i]>>4), digit(s[i]&15))
		case r == '\\':
			out = append(out, '\\', '\\')
		case r >= 0x20 && r <= 0x7e, r >= 0xa1 && r <= 0x24f:
			out = utf8.AppendRune(out, r)
		default:
			out = append(out, '\\', 'u')
			out = strconv.AppendInt(out, int64(r), 16)
			out = append(out, '.')
		}
	}
	return string(out)
}

// digit spells a digit of sixteen.
func digit(b byte) byte {
	if b < 10 {
		return '0' + b
	}
	return 'a' + b - 10
}

// Unquote: and back.
func Unquote(s string) (string, api.Errno) {
	out := make([]byte, 0, len(s))
	for rest := s; rest != ""; {
		took := 0
		out, took = unquoteOne(out, rest)
		if took == 0 {
			return "", api.ErrForm
		}
		rest = rest[took:]
	}
	// unquoteOne takes more than Quote writes (noughts ahead, digits of UTF-8 byte by byte): only what Quote writes holds.
	if Quote(string(out)) != s {
		return "", api.ErrForm
	}
	return string(out), api.OK
}

// unquoteOne puts what the front of s stands for behind out, and tells how many bytes of s that took: 0, if it stands for nothing.
func unquoteOne(out []byte, s string) ([]byte, int) {
	switch {
	case s[0] != '\\':
		return append(out, s[0]), 1
	case strings.HasPrefix(s, "\\\\"):
		return append(out, '\\'), 2
	case strings.HasPrefix(s, "\\x") && len(s) >= 4:
		b, err := strconv.ParseUint(s[2:4], 16, 8)
		if err != nil {
			return out, 0
		}
		return append(out, byte(b)), 4
	case strings.HasPrefix(s, "\\u"):
		end := strings.IndexByte(s, '.')
		if end < 0 {
			return out, 0
		}
		r, err := strconv.ParseUint(s[2:end], 16, 31)
		if err != nil {
			return out, 0
		}
		return utf8.AppendRune(out, rune(r)), end + 1
	}
	return out, 0
}

// Order: which one comes first, rune by rune.
func Order(a, b string) int {
	for i, r := range a {
		// All runes ahead were alike, and as wide: b's next one begins at the same place.
		if i >= len(b) {
			return 1
		}
		_, width := utf8.DecodeRuneInString(a[i:])
		other, otherWidth := utf8.DecodeRuneInString(b[i:])
		if c := cmp.Compare(r, other); c != 0 {
			return c
		}
		if c := cmp.Compare(width, otherWidth); c != 0 {
			return c
		}
	}
	if len(a) < len(b) {
		return -1
	}
	return strings.Compare(a, b)
}
