// Package bits is layer 1: see shared/doc/01-bits.md.
package bits

// The kinds of whole numbers.
const (
	I8  = 1
	I16 = 2
	I32 = 3
	I64 = 4
	U8  = 5
	U16 = 6
	U32 = 7
	U64 = 8
)

// Wrap: what a kind's number holds of 64 bits, as 64 bits again (a signed kind's sign goes on to the left).
func Wrap(kind int, x uint64) (uint64, bool) {
	switch kind {
	case I8:
		return uint64(int8(x)), true
	case I16:
		return uint64(int16(x)), true
	case I32:
		return uint64(int32(x)), true
	case I64, U64:
		return x, true
	case U8:
		return uint64(uint8(x)), true
	case U16:
		return uint64(uint16(x)), true
	case U32:
		return uint64(uint32(x)), true
	}
	return 0, false
}

// Fits: does the number x lie in the kind's range? And is there such a kind?
func Fits(kind int, x int) (bool, bool) {
	least, greatest, ok := Ends(kind)
	if !ok {
		return false, false
	}
	// The greatest may be above every int, so a number below 0 is held against the least alone.
	return least <= x && (x < 0 || uint64(x) <= greatest), true
}

// Ends: the least and the greatest number of a kind.
func Ends(kind int) (int, uint64, bool) {
	switch kind {
	case I8:
		return -1 << 7, 1<<7 - 1, true
	case I16:
		return -1 << 15, 1<<15 - 1, true
	case I32:
		return -1 << 31, 1<<31 - 1, true
	case I64:
		return -1 << 63, 1<<63 - 1, true
	case U8:
		return 0, 1<<8 - 1, true
	case U16:
		return 0, 1<<16 - 1, true
	case U32:
		return 0, 1<<32 - 1, true
	case U64:
		return 0, 1<<64 - 1, true
	}
	return 0, 0, false
}

// Field: the width bits from at on.
func Field(x uint64, at, width int) (uint64, bool) {
	if !inside(at, width) {
		return 0, false
	}
	return x >> uint(at) & lowest(width), true
}

// Put: x with the width bits from at on taken from v's lowest ones.
func Put(x uint64, at, width int, v uint64) (uint64, bool) {
	if !inside(at, width) {
		return 0, false
	}
	mask := lowest(width)
	return x&^(mask<<uint(at)) | (v&mask)<<uint(at), true
}

// inside: do width bits from at on lie within 64? The sum of the two might wrap, so it isn't made.
func inside(at, width int) bool {
	return 0 <= at && at <= 64 && 0 <= width && width <= 64-at
}

// lowest: the lowest width bits set; of width 64 the 1 is shifted out, and what is below it is all of them.
func lowest(width int) uint64 {
	return uint64(1)<<uint(width) - 1
}

// Shift: x moved n bits to the left, or -n to the right with its sign.
func Shift(x, n int) int {
	// The count is turned about only where it is small: the least int has no opposite.
	switch {
	case n >= 64:
		return 0
	case n >= 0:
		return x << uint(n)
	case n > -64:
		return x >> uint(-n)
	}
	return x >> 63
}

// Move: the bits moved n to the left, or -n to the right; noughts come in.
func Move(x uint64, n int) uint64 {
	switch {
	case n >= 64 || n <= -64:
		return 0
	case n >= 0:
		return x << uint(n)
	}
	return x >> uint(-n)
}

// Turn: x turned n bits to the left.
func Turn(x uint32, n int) uint32 {
	// The lowest five bits are the modulus, below 0 too, for an int is its own two's complement.
	left := uint(n & 31)
	return x<<left | x>>(32-left)
}

// Zig: the numbers 0, -1, 1, -2, .. as 0, 1, 2, 3, ..
func Zig(x int) uint64 {
	return uint64(x)<<1 ^ uint64(x>>63)
}

// Zag: Zig turned back.
func Zag(u uint64) int {
	return int(u>>1) ^ -int(u&1)
}

// Varint: the number in groups of seven bits, the lowest first.
func Varint(u uint64) []byte {
	return appendVarint(nil, u)
}

func appendVarint(out []byte, u uint64) []byte {
	for u >= 128 {
		out = append(out, uint8(u)|128)
		u >>= 7
	}
	return append(out, uint8(u))
}

// Unvar: the number at the beginning, and how many bytes it takes; 0: there is none.
func Unvar(b []byte) (uint64, int) {
	var u uint64
	for i, c := range b {
		// Nine groups are 63 bits: the tenth has room for one more, and there is no eleventh.
		if i == 9 && c > 1 {
			return 0, 0
		}
		u |= uint64(c&127) << uint(7*i)
		if c >= 128 {
			continue
		}
		if c == 0 && i > 0 {
			return 0, 0
		}
		return u, i + 1
	}
	return 0, 0
}

// Pack: the numbers one behind the other.
func Pack(nums []uint64) []byte {
	var out []byte
	for _, u := range nums {
		out = appendVarint(out, u)
	}
	return out
}

// Unpack: the numbers that Pack has put there.
func Unpack(b []byte) ([]uint64, bool) {
	var nums []uint64
	for len(b) > 0 {
		u, n := Unvar(b)
		if n == 0 {
			return nil, false
		}
		nums = append(nums, u)
		b = b[n:]
	}
	return nums, true
}
