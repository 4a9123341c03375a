package block

const (
	full = 1<<32 - 1
	// turned are the bits that a bit which goes out turns.
	turned = 0xedb88320
)

// Sum is the CRC-32 of b.
func Sum(b []byte) uint32 {
	var sum uint32 = full
	for _, c := range b {
		sum = shifted(sum ^ uint32(c))
	}
	return ^sum
}

// shifted is the sum eight bits further on.
func shifted(sum uint32) uint32 {
	for range 8 {
		out := sum & 1
		// All bits of the factor, or none: a branch would be foreseen wrongly each second time.
		sum = sum>>1 ^ turned&-out
	}
	return sum
}
