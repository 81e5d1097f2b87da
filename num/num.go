// Package num is layer 1: see shared/doc/01-num.md.
package num

import (
	"cmp"
	"strconv"
	"strings"

	"doublet/api"
)

// farExp stands for every exponent from it on: a text's own digits, of which
// there are fewer than 2^31, can't bring it back to one that may be.
const farExp int64 = 1 << 40

// parts are the pieces of a number's text.
type parts struct {
	neg    bool
	whole  string
	frac   string
	expNeg bool
	exp    string
}

// Parse tells the number of a text: P1.1.
func Parse(s string) (api.Num, error) {
	p, ok := split(s)
	if !ok {
		return api.Num{}, api.ErrForm
	}
	n, ok := normal(p.neg, p.whole+p.frac, exponent(p)-int64(len(p.frac)))
	if !ok {
		return api.Num{}, api.ErrLarge
	}
	return n, nil
}

// Show tells a number's canonical text: P1.1.
func Show(n api.Num) string {
	if n.Digits == "" {
		return "0"
	}
	var b strings.Builder
	if n.Neg {
		b.WriteByte('-')
	}
	b.WriteString(n.Digits)
	if n.Exp != 0 {
		b.WriteByte('e')
		b.WriteString(strconv.Itoa(n.Exp))
	}
	return b.String()
}

// Cmp tells whether a is less than b, the same, more: P1.1.
func Cmp(a, b api.Num) int {
	if c := cmp.Compare(sign(a), sign(b)); c != 0 {
		return c
	}
	if a.Neg {
		return cmpSize(b, a)
	}
	return cmpSize(a, b)
}

// Whole tells whether a number has no digits behind the point: P1.1.
func Whole(n api.Num) bool {
	// The last digit isn't 0, so below an Exp of 0 it stands behind the point.
	return n.Exp >= 0
}

// Of tells k as a number: P1.1.
func Of(k int) api.Num {
	// No int has a text that Parse refuses.
	n, _ := Parse(strconv.Itoa(k))
	return n
}

// split tells the pieces of s, and whether it is a number's text.
func split(s string) (parts, bool) {
	var p parts
	p.neg = strings.HasPrefix(s, "-")
	s = strings.TrimPrefix(s, "-")
	p.whole, s = cutDigits(s)
	if p.whole == "" || len(p.whole) > 1 && p.whole[0] == '0' {
		return parts{}, false
	}
	if strings.HasPrefix(s, ".") {
		p.frac, s = cutDigits(s[1:])
		if p.frac == "" {
			return parts{}, false
		}
	}
	if s == "" {
		return p, true
	}
	if s[0] != 'e' && s[0] != 'E' {
		return parts{}, false
	}
	p.expNeg, s = cutSign(s[1:])
	p.exp, s = cutDigits(s)
	return p, p.exp != "" && s == ""
}

// cutDigits tells the digits that s begins with, and what is behind them.
func cutDigits(s string) (string, string) {
	k := 0
	for k < len(s) && '0' <= s[k] && s[k] <= '9' {
		k++
	}
	return s[:k], s[k:]
}

// cutSign tells whether s begins with a -, and what is behind a - or a +.
func cutSign(s string) (bool, string) {
	if s != "" && (s[0] == '-' || s[0] == '+') {
		return s[0] == '-', s[1:]
	}
	return false, s
}

// exponent tells what a text has behind its e, at most farExp from 0.
func exponent(p parts) int64 {
	var e int64
	for i := range len(p.exp) {
		e = min(e*10+int64(p.exp[i]-'0'), farExp)
	}
	if p.expNeg {
		return -e
	}
	return e
}

// normal tells digits times ten to the exp, and whether that may be.
func normal(neg bool, digits string, exp int64) (api.Num, bool) {
	digits = strings.TrimLeft(digits, "0")
	short := strings.TrimRight(digits, "0")
	exp += int64(len(digits) - len(short))
	if short == "" {
		return api.Num{}, true
	}
	if len(short) > api.MaxDigits || exp < -api.MaxExp || exp > api.MaxExp {
		return api.Num{}, false
	}
	// A piece of the text would keep all of it.
	return api.Num{Neg: neg, Digits: strings.Clone(short), Exp: int(exp)}, true
}

// sign tells -1, 0, 1 of a number below, at, above 0.
func sign(n api.Num) int {
	switch {
	case n.Digits == "":
		return 0
	case n.Neg:
		return -1
	}
	return 1
}

// cmpSize is Cmp of both without their signs.
func cmpSize(a, b api.Num) int {
	if c := cmp.Compare(len(a.Digits)+a.Exp, len(b.Digits)+b.Exp); c != 0 {
		return c
	}
	// Both first digits stand in one place now, and no text ends in a 0, so
	// the order of the texts is that of the numbers.
	return strings.Compare(a.Digits, b.Digits)
}
