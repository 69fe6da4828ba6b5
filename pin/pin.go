// Package pin reads what a person types: see doc/01-pin.md.
package pin

import (
	"strings"

	"claviger/api"
)

const dot = '\u2022'

// Normal tells the digits of a text as 0 to 9, in order, if it is a PIN.
func Normal(s string) (string, bool) {
	digits := make([]byte, 0, api.MaxPin)
	for _, sign := range s {
		if passedBy(sign) {
			continue
		}
		d, ok := digit(sign)
		if !ok || len(digits) == api.MaxPin {
			return "", false
		}
		digits = append(digits, '0'+d)
	}
	if len(digits) < api.MinPin {
		return "", false
	}
	return string(digits), true
}

// Weak tells whether digits are all the same, or step up or down by one.
func Weak(d string) bool {
	if len(d) < api.MinPin || len(d) > api.MaxPin {
		return false
	}
	for i := range len(d) {
		if d[i] < '0' || d[i] > '9' {
			return false
		}
	}
	// As bytes that are counted modulo 256, a step down is 255.
	step := d[1] - d[0]
	if step != 0 && step != 1 && step != 255 {
		return false
	}
	for i := 1; i < len(d); i++ {
		if d[i]-d[i-1] != step {
			return false
		}
	}
	return true
}

// Masked puts a dot for each sign of a text but the last two.
func Masked(s string) string {
	hidden := Count(s) - 2
	var out strings.Builder
	for _, sign := range s {
		if hidden > 0 {
			sign = dot
		}
		hidden--
		out.WriteRune(sign)
	}
	return out.String()
}

// Count tells how many signs a text has.
func Count(s string) int {
	n := 0
	for range s {
		n++
	}
	return n
}

func passedBy(sign rune) bool {
	return sign == ' ' || sign == '-' || sign == '\u00a0'
}

func digit(sign rune) (byte, bool) {
	for _, zero := range [...]rune{'0', '\uff10', '\u0660', '\u06f0'} {
		if sign >= zero && sign <= zero+9 {
			return byte(sign - zero), true
		}
	}
	return 0, false
}
