package roots_test

import "pharos/types"

// rest: a container's bytes that aren't gone through yet. Their roots are told from the bytes alone, so
// that what they were made of, or are decoded to, has no part in it.
type rest []byte

func (r *rest) take(n int) []byte {
	b := (*r)[:n]
	*r = (*r)[n:]
	return b
}

func (r *rest) octets(n int) chunk { return tree(split(r.take(n))...) }

func (r *rest) list(count, size int) chunk {
	var l []chunk
	for range count {
		l = append(l, r.octets(size))
	}
	return tree(l...)
}

func (r *rest) header() chunk {
	return tree(r.octets(8), r.octets(8), r.octets(32), r.octets(32), r.octets(32))
}

func (r *rest) committee(n int) chunk { return tree(r.list(n, 48), r.octets(48)) }

func (r *rest) aggregate(n int) chunk { return tree(r.octets((n+7)/8), r.octets(96)) }

func (r *rest) bootstrap(n int) chunk {
	return tree(r.header(), r.committee(n), r.list(5, 32))
}

func (r *rest) update(n int) chunk {
	return tree(r.header(), r.committee(n), r.list(5, 32), r.header(), r.list(6, 32), r.aggregate(n), r.octets(8))
}

func (r *rest) finality(n int) chunk {
	return tree(r.header(), r.header(), r.list(6, 32), r.aggregate(n), r.octets(8))
}

func (r *rest) optimistic(n int) chunk {
	return tree(r.header(), r.aggregate(n), r.octets(8))
}

// ofBytes tells the root of a container's bytes, all of them.
func ofBytes(b []byte, n int, cut func(r *rest, n int) chunk) (root chunk, all bool) {
	r := rest(b)
	root = cut(&r, n)
	return root, len(r) == 0
}

// sizeOf tells how many bytes a kind of update has.
func (k kind) sizeOf(n int) int {
	_, update, finality, optimistic := types.Sizes(n)
	switch k.name {
	case "Update":
		return update
	case "Finality":
		return finality
	}
	return optimistic
}
