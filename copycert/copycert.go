// Package copycert copies signatures, stamps and certificates with all that they hold,
// so that nobody shares memory with what he was given.
package copycert

import (
	"slices"

	"folkmoot/field"
	"folkmoot/key"
	"folkmoot/median"
	"folkmoot/stamp"
)

// Sig copies a signature.
func Sig(s key.Sig) key.Sig {
	s.Path = slices.Clone(s.Path)
	return s
}

// Stamp copies a stamp.
func Stamp(s stamp.Stamp) stamp.Stamp {
	s.Sig = Sig(s.Sig)
	return s
}

// Cert copies a certificate.
func Cert(c median.Cert) median.Cert {
	c.Stamps = field.Map(c.Stamps, Stamp)
	return c
}
