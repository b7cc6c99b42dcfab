// Package field joins fields into one string, and reads and prints numbers.
// See doc/01-field.md.
package field

import (
	"strconv"
	"strings"

	"folkmoot/api"
)

// Join puts a | before each field, and a \ before each | and \ inside one.
func Join(l []string) string {
	size := len(l)
	for _, f := range l {
		size += len(f)
	}
	b := make([]byte, 0, size)
	for _, f := range l {
		b = append(b, '|')
		for i := range len(f) {
			if isSpecial(f[i]) {
				b = append(b, '\\')
			}
			b = append(b, f[i])
		}
	}
	return string(b)
}

func isSpecial(c byte) bool { return c == '|' || c == '\\' }

// Split undoes Join. The whole form is looked at before the number of fields,
// so that ErrForm comes before ErrLong.
func Split(s string) ([]string, api.Errno) {
	n, e := count(s)
	if e != api.OK {
		return nil, e
	}
	if n > api.MaxField {
		return nil, api.ErrLong
	}
	l := make([]string, 0, n)
	var b strings.Builder
	for i := 0; i < len(s); i++ {
		switch s[i] {
		case '|':
			if i > 0 {
				l = append(l, b.String())
				b.Reset()
			}
		case '\\':
			i++
			b.WriteByte(s[i])
		default:
			b.WriteByte(s[i])
		}
	}
	if n > 0 {
		l = append(l, b.String())
	}
	return l, api.OK
}

func count(s string) (int, api.Errno) {
	if s != "" && s[0] != '|' {
		return 0, api.ErrForm
	}
	n := 0
	for i := 0; i < len(s); i++ {
		switch s[i] {
		case '|':
			n++
		case '\\':
			i++
			if i == len(s) || !isSpecial(s[i]) {
				return 0, api.ErrForm
			}
		}
	}
	return n, api.OK
}

// Num prints n in decimal.
func Num(n int64) string { return strconv.FormatInt(n, 10) }

// ParseNum undoes Num; strconv alone would also take +1 and 01.
func ParseNum(s string) (int64, api.Errno) {
	if !isNum(s) {
		return 0, api.ErrForm
	}
	n, err := strconv.ParseInt(s, 10, 64)
	if err != nil {
		return 0, api.ErrLong
	}
	return n, api.OK
}

func isNum(s string) bool {
	if s == "0" {
		return true
	}
	s = strings.TrimPrefix(s, "-")
	if s == "" || s[0] == '0' {
		return false
	}
	for i := range len(s) {
		if s[i] < '0' || s[i] > '9' {
			return false
		}
	}
	return true
}

// Nums prints the numbers with commas between them.
func Nums(l []int64) string { return strings.Join(Map(l, Num), ",") }

// ParseNums undoes Nums. A part of no form anywhere outweighs a number that is too long.
func ParseNums(s string) ([]int64, api.Errno) {
	if s == "" {
		return nil, api.OK
	}
	worst := api.OK
	var l []int64
	for part := range strings.SplitSeq(s, ",") {
		n, e := ParseNum(part)
		if e == api.ErrForm {
			return nil, e
		}
		if e != api.OK {
			worst = e
		}
		l = append(l, n)
	}
	if worst != api.OK {
		return nil, worst
	}
	return l, api.OK
}

// Map returns f of each element, in order.
func Map[T, U any](l []T, f func(T) U) []U {
	r := make([]U, 0, len(l))
	for _, x := range l {
		r = append(r, f(x))
	}
	return r
}
