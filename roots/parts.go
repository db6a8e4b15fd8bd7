package roots

import (
	"pharos/api"
	"pharos/merkle"
	"pharos/ssz"
)

// root answers the root of the tree over just these: a container's fields, a list's things, or chunks. As
// there are never more of them than the limit, merkle.Root has no error to hand on.
func root(all ...[32]byte) api.Root {
	out, _ := merkle.Root(all, len(all))
	return out
}

// octets answers the root of bytes.
func octets(b []byte) api.Root {
	return root(ssz.Pack(b)...)
}

func bits(l []bool) api.Root {
	var w ssz.Writer
	w.Bits(l)
	return octets(w.All())
}

func keys(l []api.Key) api.Root {
	all := make([][32]byte, len(l))
	for i, k := range l {
		all[i] = Key(k)
	}
	return root(all...)
}

func branch(l []api.Root) api.Root {
	all := make([][32]byte, len(l))
	for i, r := range l {
		all[i] = r
	}
	return root(all...)
}

// sized answers a committee of n keys, as package types writes it: missing ones are noughts, which aren't
// the same as no leaves, and more are cut off.
func sized(c api.Committee, n int) api.Committee {
	own := make([]api.Key, n)
	copy(own, c.Keys)
	return api.Committee{Keys: own, Sum: c.Sum}
}
