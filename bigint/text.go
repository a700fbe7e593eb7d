package bigint

import (
	"strconv"
	"strings"

	"culet/api"
)

// group is the greatest power of 10 that is a digit; a group has 19 decimal digits.
const (
	group       = 10000000000000000000
	groupDigits = 19
)

// Print returns the text of an integer.
func Print(a api.Int) string {
	if !Valid(a) {
		return ""
	}
	sign := ""
	if a.Neg {
		sign = "-"
	}
	if len(a.Mag) <= 8 {
		return sign + strconv.FormatUint(word(a.Mag), 10)
	}
	var b strings.Builder
	b.WriteString(sign)
	b.WriteString(strings.TrimLeft(decimals(split(a.Mag)), "0"))
	return b.String()
}

// decimals returns decimal digits, perhaps with zeros at the beginning. Long numbers are divided into halves.
func decimals(l digits) string {
	power, places := digits{group}, groupDigits
	if len(l) <= len(power) {
		text := strconv.FormatUint(word(join(l)), 10)
		return strings.Repeat("0", max(0, groupDigits-len(text))) + text
	}
	for 3*len(power) < len(l) {
		power, places = multiply(power, power), 2*places
	}
	high, low := divide(l, power)
	text := decimals(low)
	if len(text) > places {
		text = text[len(text)-places:]
	}
	return decimals(high) + strings.Repeat("0", places-len(text)) + text
}

// Parse returns the integer with a text.
func Parse(s string) (api.Int, api.Errno) {
	text, neg := strings.CutPrefix(s, "-")
	if !decimal(text) || neg && text == "0" {
		return api.Int{}, api.ErrSyntax
	}
	if len(text) > api.MaxDigits {
		return api.Int{}, api.ErrLimit
	}
	l := digits{}
	for at := 0; at < len(text); {
		end := at + (len(text)-at-1)%groupDigits + 1
		w, _ := strconv.ParseUint(text[at:end], 10, 64)
		l = appendGroup(l, w)
		at = end
	}
	return signed(neg, join(l)), api.OK
}

func decimal(s string) bool {
	if s == "" || s[0] == '0' && s != "0" {
		return false
	}
	for i := 0; i < len(s); i++ {
		if s[i] < '0' || s[i] > '9' {
			return false
		}
	}
	return true
}

// appendGroup returns l times 10^19 plus w.
func appendGroup(l digits, w uint64) digits {
	p := product{make(digits, len(l)+1)}
	p.addRow(0, group, l)
	addAt(p.l, digits{w}, 0)
	return trim(p.l)
}
