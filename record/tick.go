package record

import "garner/api"

// tickBody is how many bytes the record of a Tick has ahead of its check: the letter, and n in two bytes.
const tickBody = 3

// OfTick tells the record of a Tick by an n that is accepted.
func OfTick(n int) string {
	s := string([]byte{'T', byte(n), byte(n >> 8)})
	sum := check(s)
	return s + number(sum)
}

// ReadTick reads the record of a Tick with which s begins: its n, and how many bytes it has.
func ReadTick(s string) (int, int, api.Errno) {
	if len(s) < tickBody+numberSize || s[0] != 'T' {
		return 0, 0, api.ErrRecord
	}
	sum := check(s[:tickBody])
	if readNumber(s, tickBody) != sum {
		return 0, 0, api.ErrRecord
	}
	n := int(s[1]) | int(s[2])<<8
	return n, tickBody + numberSize, api.OK
}
