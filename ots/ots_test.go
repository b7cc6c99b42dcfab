package ots_test

import (
	"math"
	"testing"

	"folkmoot/hash"
	"folkmoot/ots"
)

func TestDigits(t *testing.T) {
	for d, want := range map[hash.Digest][ots.Chains]int{
		0:                  {16: 15, 17: 0},
		math.MaxUint64:     {15, 15, 15, 15, 15, 15, 15, 15, 15, 15, 15, 15, 15, 15, 15, 15, 0, 0},
		0x123456789ABCDEF0: {1, 2, 3, 4, 5, 6, 7, 8, 9, 10, 11, 12, 13, 14, 15, 0, 7, 8},
		1:                  {15: 1, 16: 14, 17: 15},
	} {
		if got := ots.Digits(d); got != want {
			t.Errorf("P301: Digits(%x) = %v, want %v", d, got, want)
		}
	}
}

func TestSecrets(t *testing.T) {
	s := ots.Secrets(7, 3)
	if s[0] != 0x72095bdc40e4795a || s[17] != 0x29888e2aeb3fbfb1 {
		t.Errorf("P301: Secrets(7, 3) = %x", s)
	}
	for k, x := range s {
		if want := hash.Two("sk", 7, hash.Digest(96+k)); x != want {
			t.Errorf("P301: secret %d is %x, want %x", k, x, want)
		}
	}
	if got := ots.Secrets(math.MaxUint64, -1)[2]; got != 0x8e7b97938abe8fb5 {
		t.Errorf("P301: the numbers wrap: %x", got)
	}
}

func TestSign(t *testing.T) {
	s := ots.Secrets(7, 3)
	p := ots.Pub(s)
	if p != 0xba4851b135f52816 {
		t.Errorf("P301: Pub = %x", p)
	}
	sig := ots.Sign(s, 0x123456789abcdef0)
	if sig[1] != 0x050ad714d95eec9e || sig[17] != 0x4c392e747f9011c4 || sig[15] != s[15] {
		t.Errorf("P301: Sign = %x", sig)
	}
	for k, n := range ots.Digits(0x123456789abcdef0) {
		if sig[k] != hash.Chain("ot", s[k], n) {
			t.Errorf("P301: chain %d of the signature", k)
		}
	}
}

func TestVerify(t *testing.T) {
	for _, d := range []hash.Digest{0, 1, math.MaxUint64, 0x123456789abcdef0, 0xfedcba9876543210} {
		for leaf := range 4 {
			s := ots.Secrets(uint64(d)+5, leaf)
			p, sig := ots.Pub(s), ots.Sign(s, d)
			if ots.Recover(sig, d) != p || !ots.Verify(p, sig, d) {
				t.Errorf("P302: leaf %d does not verify %x", leaf, d)
			}
			if ots.Verify(p, sig, d+1) || ots.Verify(p+1, sig, d) {
				t.Errorf("P301: leaf %d verifies what it did not sign", leaf)
			}
			for k := range sig {
				bad := sig
				bad[k]++
				if ots.Verify(p, bad, d) {
					t.Errorf("P301: a change of chain %d is not seen", k)
				}
			}
		}
	}
}

func TestVerifyOfAnySecret(t *testing.T) {
	s := ots.Secret{3: 9, 17: math.MaxUint64}
	if !ots.Verify(ots.Pub(s), ots.Sign(s, 42), 42) {
		t.Error("P302: a secret that Secrets did not make does not verify")
	}
	if p := ots.Recover(ots.Sig(s), 0); p == ots.Pub(s) {
		t.Error("P301: Recover goes the whole chain whatever the digits")
	}
}

func TestSumOfDigitsGuards(t *testing.T) {
	s := ots.Secrets(1, 1)
	sig := ots.Sign(s, 0x10)
	sig[14] = hash.Chain("ot", sig[14], 1)
	if ots.Verify(ots.Pub(s), sig, 0x20) {
		t.Error("P301: a raised digit is not held against the checksum")
	}
}
