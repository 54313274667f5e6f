package record

// numberSize is how many bytes a number has in a record.
const numberSize = 4

// number writes n as four bytes, the low one first.
func number(n uint32) string {
	return string([]byte{byte(n), byte(n >> 8), byte(n >> 16), byte(n >> 24)})
}

// readNumber reads the four bytes from the place from on; it is 0 if s has not so many.
func readNumber(s string, from int) uint32 {
	if from < 0 || from > len(s)-numberSize {
		return 0
	}
	n := uint32(0)
	for i := numberSize - 1; i >= 0; i-- {
		n = n<<8 | uint32(s[from+i])
	}
	return n
}

// check tells the check of the bytes of s.
func check(s string) uint32 {
	// What goes beyond 32 bits falls away: this is the modulo that is asked for.
	h := uint32(7)
	for i := 0; i < len(s); i++ {
		h = 31*h + uint32(s[i])
	}
	return h
}
