package hash_test

import (
	"math"
	"testing"

	"folkmoot/api"
	"folkmoot/hash"
)

const all = math.MaxUint64

func TestMix(t *testing.T) {
	for _, c := range [][3]uint64{
		{0, 0, 0},
		{1, 2, 0xce9987a8598840f3},
		{all, all, 0xf7622d3784a0ad54},
		{0x0123456789abcdef, 256, 0x08b9c56c9c52f3ec},
	} {
		if got := hash.Mix(c[0], c[1]); got != c[2] {
			t.Errorf("P201: Mix(%x, %x) = %x, want %x", c[0], c[1], got, c[2])
		}
	}
}

func TestSum(t *testing.T) {
	for _, c := range []struct {
		tag, text string
		want      hash.Digest
	}{
		{"", "", 0x0ae8584146ded6a7},
		{"a", "", 0x412c172d9827fff6},
		{"cmd", "3,70,5,0,123456789", 0x3c2e153fbe74ae82},
		{"t", "\x00\xff\n", 0x5f2a728cb7cbcf13},
		{"ab", "c", 0x68a84c4d6013a32b},
		{"a", "bc", 0xef91fec25ccbfedc},
	} {
		if got := hash.Sum(c.tag, []byte(c.text)); got != c.want {
			t.Errorf("P201: Sum(%q, %q) = %x, want %x", c.tag, c.text, got, c.want)
		}
		if got := hash.Of(c.tag, c.text); got != c.want {
			t.Errorf("P201: Of(%q, %q) = %x, want %x", c.tag, c.text, got, c.want)
		}
	}
	if hash.Sum("x", nil) != hash.Sum("x", []byte{}) {
		t.Error("P2: nil and empty bytes have different digests")
	}
	b := []byte("kept")
	hash.Sum("x", b)
	if string(b) != "kept" {
		t.Error("P2: Sum changed its argument")
	}
}

func TestTwo(t *testing.T) {
	if got := hash.Two("mt", 1, 2); got != 0xc857bd471ca1718f {
		t.Errorf("P201: Two = %x", got)
	}
	if got := hash.Two("", all, 0); got != 0xce88adc7260e4791 {
		t.Errorf("P201: Two = %x", got)
	}
}

func TestChain(t *testing.T) {
	for n, want := range map[int]hash.Digest{
		math.MinInt: 5, -1: 5, 0: 5,
		1: 0x8016d15ba479ca40, 15: 0x6b6baa5195b635ea,
		255: 0xb8d30ded7b39661d, 256: 0xb8d30ded7b39661d, math.MaxInt: 0xb8d30ded7b39661d,
	} {
		if got := hash.Chain("ot", 5, n); got != want {
			t.Errorf("P201: Chain(%d) = %x, want %x", n, got, want)
		}
	}
	if got := hash.Chain("ot", hash.Chain("ot", 5, 100), 155); got != hash.Chain("ot", 5, 255) {
		t.Errorf("P201: Chain in two parts = %x", got)
	}
	if hash.Chain("ot", 5, 254) == hash.Chain("ot", 5, 255) {
		t.Error("P201: the step 255 is missing")
	}
	if got := hash.Chain("x", 0, 3); got != 0x987d27d63d30d152 {
		t.Errorf("P201: Chain = %x", got)
	}
}

func TestTextAndParse(t *testing.T) {
	for s, d := range map[string]hash.Digest{
		"0000000000000000": 0, "000000000000004d": 77, "ffffffffffffffff": all, "0123456789abcdef": 0x0123456789abcdef,
	} {
		if got := hash.Text(d); got != s {
			t.Errorf("P201: Text(%d) = %q", d, got)
		}
		if got, e := hash.Parse(s); got != d || e != api.OK {
			t.Errorf("P201: Parse(%q) = %d, %v", s, got, e)
		}
	}
	for _, s := range []string{
		"", "0", "000000000000000", "00000000000000000", "0123456789ABCDEF", "000000000000000g",
		"0x00000000000000", " 000000000000000", "000000000000000 ", "+000000000000000", "-000000000000000",
		"00000000_0000000", "000000000000000:", "000000000000000/", "000000000000000`", "é00000000000000",
	} {
		if got, e := hash.Parse(s); got != 0 || e != api.ErrForm {
			t.Errorf("P201: Parse(%q) = %d, %v", s, got, e)
		}
	}
}
