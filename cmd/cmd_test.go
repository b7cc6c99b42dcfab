package cmd_test

import (
	"math"
	"testing"

	"folkmoot/api"
	"folkmoot/cmd"
	"folkmoot/hash"
)

var good = cmd.Cmd{Client: 3, Nonce: 70, From: 5, To: 0, Amount: 123456789}

func TestCheck(t *testing.T) {
	for i, c := range []struct {
		change func(*cmd.Cmd)
		want   api.Errno
	}{
		{func(c *cmd.Cmd) {}, api.OK},
		{func(c *cmd.Cmd) { c.Client = -1 }, api.ErrArg},
		{func(c *cmd.Cmd) { c.Client = 0 }, api.OK},
		{func(c *cmd.Cmd) { c.Client = 15 }, api.OK},
		{func(c *cmd.Cmd) { c.Client = 16 }, api.ErrArg},
		{func(c *cmd.Cmd) { c.Nonce = -1 }, api.ErrArg},
		{func(c *cmd.Cmd) { c.Nonce = 0 }, api.OK},
		{func(c *cmd.Cmd) { c.Nonce = api.MaxView }, api.OK},
		{func(c *cmd.Cmd) { c.Nonce = api.MaxView + 1 }, api.ErrArg},
		{func(c *cmd.Cmd) { c.From = -1 }, api.ErrArg},
		{func(c *cmd.Cmd) { c.From = 15 }, api.OK},
		{func(c *cmd.Cmd) { c.From = 16 }, api.ErrArg},
		{func(c *cmd.Cmd) { c.To = -1 }, api.ErrArg},
		{func(c *cmd.Cmd) { c.To = 15 }, api.OK},
		{func(c *cmd.Cmd) { c.To = 16 }, api.ErrArg},
		{func(c *cmd.Cmd) { c.To = c.From }, api.ErrArg},
		{func(c *cmd.Cmd) { c.Amount = 0 }, api.ErrArg},
		{func(c *cmd.Cmd) { c.Amount = -1 }, api.ErrArg},
		{func(c *cmd.Cmd) { c.Amount = 1 }, api.OK},
		{func(c *cmd.Cmd) { c.Amount = api.MaxAmount }, api.OK},
		{func(c *cmd.Cmd) { c.Amount = api.MaxAmount + 1 }, api.ErrArg},
		{func(c *cmd.Cmd) { c.Client, c.Nonce = math.MaxInt, math.MinInt }, api.ErrArg},
	} {
		x := good
		c.change(&x)
		if e := cmd.Check(x); e != c.want {
			t.Errorf("P901: case %d: Check(%v) = %v", i, x, e)
		}
		if y, e := cmd.Parse(cmd.Text(x)); c.want == api.OK && (y != x || e != api.OK) {
			t.Errorf("P901: case %d: Parse = %v, %v", i, y, e)
		}
	}
}

func TestText(t *testing.T) {
	if got := cmd.Text(good); got != "3,70,5,0,123456789" {
		t.Errorf("P901: Text = %q", got)
	}
	if got := cmd.Text(cmd.Cmd{Client: -1, Nonce: math.MinInt, From: math.MaxInt, To: 2, Amount: -3}); got != "-1,-9223372036854775808,9223372036854775807,2,-3" {
		t.Errorf("P901: Text = %q", got)
	}
	if got := cmd.Digest(good); got != 0x3c2e153fbe74ae82 || got != hash.Of("cmd", "3,70,5,0,123456789") {
		t.Errorf("P901: Digest = %x", got)
	}
}

func TestParse(t *testing.T) {
	const long = "9223372036854775808"
	for s, want := range map[string]api.Errno{
		"":                         api.ErrForm,
		"1,2,3,4":                  api.ErrForm,
		"1,2,3,4,5,6":              api.ErrForm,
		"1,2,3,4,":                 api.ErrForm,
		"1,2,3,4,x":                api.ErrForm,
		"01,2,3,4,5":               api.ErrForm,
		"1,2,3,4," + long:          api.ErrLong,
		long + ",2,3,4":            api.ErrLong,
		long + ",2,3,4,x":          api.ErrForm,
		"2147483648,2,3,4,5":       api.ErrForm,
		"1,2147483648,3,4,5":       api.ErrForm,
		"1,2,-2147483649,4,5":      api.ErrForm,
		"1,2,3,2147483648,5":       api.ErrForm,
		"2147483647,2,3,4,5":       api.ErrArg,
		"1,2,3,-2147483648,5":      api.ErrArg,
		"1,2,3,4,0":                api.ErrArg,
		"1,2,3,3,5":                api.ErrArg,
		"16,2147483648,3,3,5":      api.ErrForm,
		"1,2,3,4,1099511627777":    api.ErrArg,
		"1,1048577,3,4,5":          api.ErrArg,
		"1,1048576,3,4,5":          api.OK,
		"15,0,14,15,1":             api.OK,
		"0,0,0,1,1099511627776":    api.OK,
		"1,2,3,4,-5":               api.ErrArg,
		"1,2,3,4,9007199254740993": api.ErrArg,
	} {
		c, e := cmd.Parse(s)
		if e != want || e != api.OK && c != (cmd.Cmd{}) || e == api.OK && cmd.Text(c) != s {
			t.Errorf("P901: Parse(%q) = %v, %v, want %v", s, c, e, want)
		}
	}
}

func TestSameID(t *testing.T) {
	if !cmd.SameID(good, cmd.Cmd{Client: 3, Nonce: 70}) {
		t.Error("P901: the ID is more than Client and Nonce")
	}
	for _, c := range []cmd.Cmd{{Client: 3, Nonce: 71}, {Client: 4, Nonce: 70}, {Client: 70, Nonce: 3}} {
		if cmd.SameID(good, c) {
			t.Errorf("P901: %v has the same ID", c)
		}
	}
}
