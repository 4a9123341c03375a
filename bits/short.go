package bits

const (
	shortBits = 7              // of the number in each of its short bytes
	more      = 1 << shortBits // set in all short bytes but the last one
	mostShort = 10             // short bytes of the greatest number
	lastShort = 1              // the greatest tenth byte: one bit of the number is left for it
)

// Zig is n as a number that is small, if n is near 0.
func Zig(n int64) uint64 {
	// The sign, spread over all bits, turns each bit of a number below 0: 2 n becomes -2 n - 1.
	return uint64(n)<<1 ^ uint64(n>>63)
}

// Zag undoes Zig.
func Zag(n uint64) int64 {
	return int64(n>>1) ^ -int64(n&1)
}

// Short is n's short bytes.
func Short(n uint64) []byte {
	var b []byte
	for n >= more {
		b = append(b, byte(n)|more)
		n >>= shortBits
	}
	return append(b, byte(n))
}

// ReadShort is the number whose short bytes stand at b's beginning, and how many they are; 0 and 0, if none stands there.
func ReadShort(b []byte) (uint64, int) {
	var n uint64
	for i, c := range b {
		if i == mostShort-1 && c > lastShort {
			return 0, 0
		}
		n |= uint64(c&^more) << (shortBits * i)
		if c&more != 0 {
			continue
		}
		// The number would be shorter without a last 0.
		if c == 0 && i > 0 {
			return 0, 0
		}
		return n, i + 1
	}
	return 0, 0
}
