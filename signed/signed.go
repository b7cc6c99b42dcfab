// Package signed checks the signatures of the things that replicas sign. All of
// them are checked alike, whatever the thing is.
package signed

import (
	"folkmoot/api"
	"folkmoot/hash"
	"folkmoot/key"
)

// Mark says who claims to have signed what, and how.
type Mark struct {
	Who    int
	Digest hash.Digest
	Sig    key.Sig
}

// Check returns ErrSig if one of the things is not signed by the one whom its mark names.
// Roots has the root of each replica's key, and height is that of all keys.
func Check[T any](roots []hash.Digest, height int, mark func(T) Mark, things ...T) api.Errno {
	for _, x := range things {
		m := mark(x)
		if m.Who < 0 || m.Who >= len(roots) || m.Sig.Who != m.Who ||
			!key.Verify(roots[m.Who], m.Sig, m.Digest, height) {
			return api.ErrSig
		}
	}
	return api.OK
}
