package field_test

import (
	"math"
	"slices"
	"strings"
	"testing"

	"folkmoot/api"
	"folkmoot/field"
)

func TestJoinAndSplit(t *testing.T) {
	for _, c := range []struct {
		l    []string
		want string
	}{
		{nil, ""},
		{[]string{}, ""},
		{[]string{""}, "|"},
		{[]string{"", "", ""}, "|||"},
		{[]string{"a"}, "|a"},
		{[]string{"a", "", "b"}, "|a||b"},
		{[]string{"a|b", "\\"}, `|a\|b|\\`},
		{[]string{"||", `\\`, `\|`, `|\`}, `|\|\||\\\\|\\\||\|\\`},
		{[]string{"x\xff\x00\n", "é☃"}, "|x\xff\x00\n|é☃"},
	} {
		if got := field.Join(c.l); got != c.want {
			t.Errorf("P101: Join(%q) = %q, want %q", c.l, got, c.want)
		}
		l, e := field.Split(c.want)
		if e != api.OK || !slices.Equal(l, c.l) {
			t.Errorf("P101: Split(%q) = %q, %v", c.want, l, e)
		}
	}
}

func TestSplitWrong(t *testing.T) {
	many := strings.Repeat("|", api.MaxField+1)
	for s, want := range map[string]api.Errno{
		"a":                api.ErrForm,
		"a|b":              api.ErrForm,
		`\`:                api.ErrForm,
		`\|`:               api.ErrForm,
		`|a\b`:             api.ErrForm,
		`|\`:               api.ErrForm,
		`|a\\\`:            api.ErrForm,
		`|a|b\,`:           api.ErrForm,
		many:               api.ErrLong,
		many + "x":         api.ErrLong,
		many + `\`:         api.ErrForm,
		"x" + many:         api.ErrForm,
		many + `\n` + many: api.ErrForm,
	} {
		if l, e := field.Split(s); e != want || len(l) != 0 {
			t.Errorf("P101: Split(%.20q) = %d fields, %v, want %v", s, len(l), e, want)
		}
	}
	if l, e := field.Split(many[1:]); e != api.OK || len(l) != api.MaxField {
		t.Errorf("P101: the greatest number of fields: %d, %v", len(l), e)
	}
	if l, e := field.Split("|" + strings.Repeat(`\|`, api.MaxField+9)); e != api.OK || len(l) != 1 {
		t.Errorf("P101: escaped bytes are no fields: %d, %v", len(l), e)
	}
}

func TestNum(t *testing.T) {
	for s, n := range map[string]int64{
		"0": 0, "1": 1, "-1": -1, "10": 10, "-205": -205,
		"9223372036854775807": math.MaxInt64, "-9223372036854775808": math.MinInt64,
	} {
		if got := field.Num(n); got != s {
			t.Errorf("P101: Num(%d) = %q", n, got)
		}
		if got, e := field.ParseNum(s); got != n || e != api.OK {
			t.Errorf("P101: ParseNum(%q) = %d, %v", s, got, e)
		}
	}
	for s, want := range map[string]api.Errno{
		"": api.ErrForm, "-": api.ErrForm, "-0": api.ErrForm, "00": api.ErrForm, "01": api.ErrForm,
		"-07": api.ErrForm, "+1": api.ErrForm, " 1": api.ErrForm, "1 ": api.ErrForm, "1.0": api.ErrForm,
		"1e3": api.ErrForm, "0x1": api.ErrForm, "1_000": api.ErrForm, "--1": api.ErrForm, "٣": api.ErrForm,
		"99999999999999999999x": api.ErrForm,
		"9223372036854775808":   api.ErrLong, "-9223372036854775809": api.ErrLong,
		"100000000000000000000000": api.ErrLong,
	} {
		if got, e := field.ParseNum(s); got != 0 || e != want {
			t.Errorf("P101: ParseNum(%q) = %d, %v, want %v", s, got, e, want)
		}
	}
}

func TestNums(t *testing.T) {
	for s, l := range map[string][]int64{
		"": nil, "7": {7}, "-1,0,1": {-1, 0, 1}, "5,5": {5, 5}, "9223372036854775807,-9223372036854775808": {math.MaxInt64, math.MinInt64},
	} {
		if got := field.Nums(l); got != s {
			t.Errorf("P101: Nums(%v) = %q", l, got)
		}
		if got, e := field.ParseNums(s); !slices.Equal(got, l) || e != api.OK {
			t.Errorf("P101: ParseNums(%q) = %v, %v", s, got, e)
		}
	}
	const long = "9223372036854775808"
	for s, want := range map[string]api.Errno{
		",": api.ErrForm, "1,": api.ErrForm, ",1": api.ErrForm, "1,,2": api.ErrForm, "1, 2": api.ErrForm,
		"1;2": api.ErrForm, "01": api.ErrForm, long + ",x": api.ErrForm, "x," + long: api.ErrForm,
		long: api.ErrLong, "1," + long: api.ErrLong, long + ",1": api.ErrLong,
	} {
		if got, e := field.ParseNums(s); len(got) != 0 || e != want {
			t.Errorf("P101: ParseNums(%q) = %v, %v, want %v", s, got, e, want)
		}
	}
}

func TestNumsHaveNoGreatestNumber(t *testing.T) {
	l := make([]int64, api.MaxField+5)
	if got, e := field.ParseNums(field.Nums(l)); len(got) != len(l) || e != api.OK {
		t.Errorf("P101: %d numbers, %v", len(got), e)
	}
}

func TestMap(t *testing.T) {
	l := []string{"a", "bcd", ""}
	if got := field.Map(l, func(s string) int { return len(s) }); !slices.Equal(got, []int{1, 3, 0}) {
		t.Errorf("P101: Map = %v", got)
	}
	if got := field.Map(nil, func(n int) string { return "x" }); len(got) != 0 {
		t.Errorf("P101: Map of nothing = %v", got)
	}
	got := field.Map(l, func(s string) string { return s })
	got[0] = "changed"
	if l[0] != "a" {
		t.Error("P2: the result of Map shares memory with its argument")
	}
}

func FuzzSplit(f *testing.F) {
	f.Add(`|a\|b|\\`)
	f.Fuzz(func(t *testing.T, s string) {
		l, e := field.Split(s)
		if e == api.OK && field.Join(l) != s || e != api.OK && len(l) != 0 {
			t.Errorf("P101: Split(%q) = %q, %v", s, l, e)
		}
	})
}
