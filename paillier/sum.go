package paillier

import "windbreak/api"

// Add hides the sum of what two cipher texts hide.
func Add(n, c, d api.Nat) (api.Nat, api.Errno) {
	if err := faultOf(n, cipher(c), cipher(d)); err != api.OK {
		return nil, err
	}
	return product(n, c, d), api.OK
}

// Plain hides the sum of what a cipher text hides and a number below n.
func Plain(n, c, m api.Nat) (api.Nat, api.Errno) {
	if err := faultOf(n, cipher(c), plain(m)); err != api.OK {
		return nil, err
	}
	return product(n, c, bare(n, m)), api.OK
}

// Scale hides so many times what a cipher text hides.
func Scale(n, c, k api.Nat) (api.Nat, api.Errno) {
	if err := faultOf(n, cipher(c), plain(k)); err != api.OK {
		return nil, err
	}
	return power(n, c, k), api.OK
}
