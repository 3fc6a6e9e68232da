// Package hkdf is layer 4: keys out of a key: see shared/doc/04-hkdf.md.
package hkdf

import (
	"casket/api"
	"casket/hmac"
)

// Most is how many bytes come out of a key at most.
const Most = 8160

// Extract: a key out of a secret, by a salt; Expand: so many bytes out of a key, for a use.
func Extract(salt, secret []byte) [32]byte {
	return hmac.Sum(salt, secret)
}

func Expand(key, use []byte, n int) ([]byte, api.Errno) {
	if n < 0 || n > Most {
		return nil, api.ErrArg
	}
	out := make([]byte, 0, n)
	var last []byte
	for i := 1; len(out) < n; i++ { // to 255 at most: Most is 255 digests
		digest := hmac.Sum(key, last, use, []byte{byte(i)})
		last = digest[:]
		out = append(out, last[:min(len(last), n-len(out))]...)
	}
	return out, api.OK
}
