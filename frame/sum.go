package frame

const (
	allOnes   = 1<<32 - 1
	turned    = 0xEDB88320 // what an odd number's step turns over
	sumLength = 4
)

// Sum is a check sum of bytes.
func Sum(b []byte) uint32 {
	steps := eightSteps()
	r := uint32(allOnes)
	for _, x := range b {
		r = r>>8 ^ steps[byte(r)^x]
	}
	return r ^ allOnes
}

// eightSteps is what a byte's eight steps make of each number below 256. That is enough for all numbers: the bits above the lowest eight are moved by these steps, but decide none of them.
func eightSteps() [256]uint32 {
	var steps [256]uint32
	for n := range uint32(256) {
		r := n
		for range 8 {
			r = step(r)
		}
		steps[n] = r
	}
	return steps
}

func step(r uint32) uint32 {
	if r%2 == 1 {
		return r/2 ^ turned
	}
	return r / 2
}

// sumBytes is the sum as it stands behind a frame's parts: the highest byte first.
func sumBytes(b []byte) []byte {
	s := Sum(b)
	return []byte{byte(s >> 24), byte(s >> 16), byte(s >> 8), byte(s)}
}
