package hist

import (
	"windbreak/api"
	"windbreak/modint"
	"windbreak/nat"
	"windbreak/paillier"
)

// Cipher are, cut by cut, the products of the cipher texts of the rows to the left, which hide the sums of what these hide.
func Cipher(n api.Nat, t api.Table, rows api.Bits, c []api.Nat) ([]api.Nat, api.Errno) {
	if !paillier.May(n) {
		return nil, api.ErrArg
	}
	if err := faultOf(t, rows, len(c)); err != api.OK {
		return nil, err
	}
	if !areCiphers(n, c...) {
		return nil, api.ErrCipher
	}
	times := timesBy(n)
	var products []api.Nat
	for _, left := range leftsOf(t, rows) {
		product := nat.Of(1)
		for _, row := range left {
			product = times(product, c[row])
		}
		products = append(products, product)
	}
	return products, api.OK
}

// Less hides the difference of what two cipher texts hide.
func Less(n, c, d api.Nat) (api.Nat, api.Errno) {
	if !paillier.May(n) {
		return nil, api.ErrArg
	}
	if !areCiphers(n, c, d) {
		return nil, api.ErrCipher
	}
	inverse, _ := modint.Inverse(d, square(n)) // what has no common divisor with n has none with its square
	return timesBy(n)(c, inverse), api.OK
}

func areCiphers(n api.Nat, l ...api.Nat) bool {
	for _, c := range l {
		if !paillier.Valid(n, c) {
			return false
		}
	}
	return true
}

// timesBy is the product of two cipher texts as a function of these alone: n is squared once for all of them. With n of at most 80 bits no number is too long, so there are no errors.
func timesBy(n api.Nat) func(a, b api.Nat) api.Nat {
	by := square(n)
	return func(a, b api.Nat) api.Nat {
		product, _ := nat.Mul(a, b)
		_, rest, _ := nat.Div(product, by)
		return rest
	}
}

// square is n times n, by which all products of cipher texts are.
func square(n api.Nat) api.Nat {
	all, _ := nat.Mul(n, n)
	return all
}
