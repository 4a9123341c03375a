package block

const (
	full = 1<<32 - 1
	// turned are the bits that a bit which goes out turns.
	turned = 0xedb88320
	// many is from how many bytes on a table pays, which is made anew in each call.
	many = 512
)

// Sum is the CRC-32 of b.
func Sum(b []byte) uint32 {
	if len(b) >= many {
		return ^summedByTable(b)
	}
	var sum uint32 = full
	for _, c := range b {
		sum = shifted(sum ^ uint32(c))
	}
	return ^sum
}

// summedByTable goes on by whole bytes: the eight bits that go out tell which others they turn.
func summedByTable(b []byte) uint32 {
	var table [256]uint32
	for out := range table {
		table[out] = shifted(uint32(out))
	}
	var sum uint32 = full
	for _, c := range b {
		sum = table[byte(sum)^c] ^ sum>>8
	}
	return sum
}

// shifted is the sum eight bits further on.
func shifted(sum uint32) uint32 {
	for range 8 {
		out := sum & 1
		// All bits of the factor, or none: a branch would be foreseen wrongly each second time.
		sum = sum>>1 ^ turned&-out
	}
	return sum
}
