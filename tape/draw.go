package tape

import (
	"windbreak/api"
	"windbreak/nat"
)

// drawn is the number of the first try that is below n, which is above 0. Its bytes come by take, and its only error is that they end.
func drawn(n api.Nat, take func(count int) ([]byte, api.Errno)) (api.Nat, api.Errno) {
	most, _ := nat.Sub(n, nat.Of(1)) // n is above 0, so there is no error
	width := nat.Bits(most)
	if width == 0 {
		return nil, api.OK
	}
	for {
		b, err := take((width + 7) / 8)
		if err != api.OK {
			return nil, err
		}
		if x := lowest(b, width); nat.Cmp(x, n) < 0 {
			return x, api.OK
		}
	}
}

// lowest is the number of the lowest bits of a try's bytes, just as many as n - 1 has: with these alone, a try finds a number below n more often than not.
func lowest(b []byte, width int) api.Nat {
	b[0] &= 0xff >> (8*len(b) - width) // what was taken is the caller's own
	x, _ := nat.Read(b)                // they are no more than n's bytes, so there is no error
	return x
}
