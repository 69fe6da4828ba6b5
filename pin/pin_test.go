package pin_test

import (
	"strings"
	"testing"

	"claviger/pin"
)

// P1.1: every rune there is, alone among digits: only the forty digits and the three that are passed by may stand there.
func TestNormalOfEveryRune(t *testing.T) {
	for r := rune(0); r <= 0x10ffff; r++ {
		want, ok := "", false
		switch {
		case r >= '0' && r <= '9', r >= 0x660 && r <= 0x669, r >= 0x6f0 && r <= 0x6f9, r >= 0xff10 && r <= 0xff19:
			zero := map[rune]rune{0: '0', 6: 0x660, 0xff: 0xff10}[r>>8]
			if r >= 0x6f0 && r <= 0x6f9 {
				zero = 0x6f0
			}
			want, ok = "12"+string('0'+r-zero)+"34", true
		case r == ' ', r == '-', r == 0xa0:
			want, ok = "1234", true
		}
		if got, is := pin.Normal("12" + string(r) + "34"); got != want || is != ok {
			t.Fatalf("Normal with %U: %q, %v", r, got, is)
		}
	}
}

func TestNormal(t *testing.T) {
	for _, c := range []struct {
		s, want string
		ok      bool
	}{
		{"12-34 ", "1234", true},
		{"", "", false},
		{" - ", "", false},
		{"123", "", false},
		{"1-2-3-", "", false},
		{"0000", "0000", true},
		{"--12 34", "1234", true},
		{"123456789012", "123456789012", true},
		{"1-2-3-4-5-6-7-8-9-0-1-2-", "123456789012", true},
		{"1234567890123", "", false},
		{"12345678901 2 3", "", false},
		{"1234567890123x", "", false},
		{"1234\xff", "", false},
		{"\xff1234", "", false},
		{"1234\u00a0", "1234", true},
		{"1234\xa0", "", false},
		{"1234\ufffd", "", false},
		{"12 34\n", "", false},
		{"-1234+", "", false},
		{"\uff10\u0661\u06f23", "0123", true},
	} {
		if got, ok := pin.Normal(c.s); got != c.want || ok != c.ok {
			t.Errorf("Normal(%q): %q, %v", c.s, got, ok)
		}
	}
}

// plainWeak is P1.2, word for word.
func plainWeak(d string) bool {
	if len(d) < 4 || len(d) > 12 {
		return false
	}
	same, up, down := true, true, true
	for i := range len(d) {
		if d[i] < '0' || d[i] > '9' {
			return false
		}
		if i > 0 {
			a, b := int(d[i-1]), int(d[i])
			same, up, down = same && a == b, up && b == a+1, down && b == a-1
		}
	}
	return same || up || down
}

func TestWeak(t *testing.T) {
	digits := "0123456789"
	texts := []string{"", "1", "111", "012", "321", "9012", "8901", "1098", "2109", "abcd", "11 11", "////", "::::", "/012", "789:", ":987", "10/.", "1\x002\x00", "\uff11\uff11\uff11\uff11", "\x00\x00\x00\x00", "\xff\x00\x01\x02", "4321", "43210", "1112", "1222", "0000000000000", "000000000000", strings.Repeat("7", 12), strings.Repeat("7", 13)}
	for i := range digits {
		for j := i; j <= len(digits); j++ {
			up, down := digits[i:j], ""
			for k := j - 1; k >= i; k-- {
				down += digits[k : k+1]
			}
			texts = append(texts, up, down, up+"0", down+"9", "5"+up, "5"+down)
		}
		for n := range 15 {
			texts = append(texts, strings.Repeat(digits[i:i+1], n))
		}
	}
	for a := range 10000 {
		texts = append(texts, string([]byte{digits[a/1000], digits[a/100%10], digits[a/10%10], digits[a%10]}))
	}
	for _, s := range texts {
		if got := pin.Weak(s); got != plainWeak(s) {
			t.Errorf("Weak(%q): %v", s, got)
		}
	}
}

func TestMaskedAndCount(t *testing.T) {
	for _, c := range []struct {
		s, want string
		n       int
	}{
		{"", "", 0},
		{"1", "1", 1},
		{"12", "12", 2},
		{"123", "\u202223", 3},
		{"1234", "\u2022\u202234", 4},
		{"\u20ac\u20ac\u20ac\u20ac", "\u2022\u2022\u20ac\u20ac", 4},
		{"\xff", "\ufffd", 1},
		{"a\xff\xfe", "\u2022\ufffd\ufffd", 3},
		{"\xe2\x82\xac\xe2\x82", "\u2022\ufffd\ufffd", 3},
		{"abc\xc3", "\u2022\u2022c\ufffd", 4},
		{"\ufffdab", "\u2022ab", 3},
		{"\U0001f511\U0001f512\U0001f513", "\u2022\U0001f512\U0001f513", 3},
		{"e\u0301ab", "\u2022\u2022ab", 4},
		{"\x00\x00\x00", "\u2022\x00\x00", 3},
	} {
		if got := pin.Masked(c.s); got != c.want {
			t.Errorf("Masked(%q): %q", c.s, got)
		}
		if got := pin.Count(c.s); got != c.n {
			t.Errorf("Count(%q): %d", c.s, got)
		}
	}
}
