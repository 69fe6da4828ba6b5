// Package number reads the numbers that blend.Number writes.
package number

// Of tells the number that bytes stand for, the highest first.
func Of(b []byte) uint64 {
	n := uint64(0)
	for _, x := range b {
		n = n<<8 | uint64(x)
	}
	return n
}
