package domain

import (
	"pharos/api"
	"pharos/merkle"
	"pharos/ssz"
)

// container answers the root of a container of fields of at most 32 bytes: each is a chunk of its own, so that
// noughts stand behind one that is short. As there are never more chunks than the limit, merkle.Root has no
// error to hand on.
func container(fields ...[]byte) api.Root {
	var chunks [][32]byte
	for _, field := range fields {
		chunks = append(chunks, ssz.Pack(field)...)
	}
	out, _ := merkle.Root(chunks, len(chunks))
	return out
}

// join answers the parts, one behind the other, in new memory.
func join(parts ...[]byte) []byte {
	var w ssz.Writer
	for _, part := range parts {
		w.Bytes(part)
	}
	return w.All()
}
