// Package octet lays numbers and bits out as octets: see doc/01-octet.md.
package octet

// Put answers b with n's lowest 16 bits behind it, the higher byte first.
func Put(b []byte, n int) []byte {
	// Not by append: it would write into the room behind b, which is the caller's.
	out := make([]byte, len(b)+2)
	copy(out, b)
	lay(out, len(b), uint16(n))
	return out
}

// Get answers the number of the two bytes of b at at; false, unless both are there.
func Get(b []byte, at int) (int, bool) {
	// at+2 could wrap round, so the room is taken from the length instead.
	if at < 0 || at > len(b)-2 {
		return 0, false
	}
	return int(number(b, at)), true
}

// Pack answers the bits of l, eight a byte, the first one lowest.
func Pack(l []bool) []byte {
	out := make([]byte, size(len(l)))
	for i, on := range l {
		if on {
			out[i/8] |= 1 << (i % 8)
		}
	}
	return out
}

// Open answers the n bits that b holds as Pack lays them; false, unless Pack could have made b of n bits.
func Open(b []byte, n int) ([]bool, bool) {
	if n < 0 || len(b) != size(n) || !blank(b, n) {
		return nil, false
	}
	out := make([]bool, n)
	for i := range out {
		out[i] = b[i/8]>>(i%8)&1 == 1
	}
	return out, true
}

// Words answers the numbers that b holds as Bytes lays them; false of an odd length.
func Words(b []byte) ([]uint16, bool) {
	if len(b)%2 != 0 {
		return nil, false
	}
	out := make([]uint16, len(b)/2)
	for i := range out {
		out[i] = number(b, 2*i)
	}
	return out, true
}

// Bytes answers the numbers of l, two bytes each, as Put lays them.
func Bytes(l []uint16) []byte {
	out := make([]byte, 2*len(l))
	for i, n := range l {
		lay(out, 2*i, n)
	}
	return out
}

// lay and number are the only places that know which byte comes first.
func lay(b []byte, at int, n uint16) {
	b[at], b[at+1] = byte(n>>8), byte(n)
}

func number(b []byte, at int) uint16 {
	return uint16(b[at])<<8 | uint16(b[at+1])
}

// size answers how many bytes n bits take.
func size(n int) int {
	// Not (n+7)/8: n may be as great as an int can be.
	if n%8 == 0 {
		return n / 8
	}
	return n/8 + 1
}

// blank tells whether what is behind the first n bits of b is nought. b has size(n) bytes.
func blank(b []byte, n int) bool {
	return n%8 == 0 || b[n/8]>>(n%8) == 0
}
