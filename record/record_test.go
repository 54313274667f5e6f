package record

import (
	"math"
	"testing"

	"garner/api"
)

// Places out of reach are told as such, and none panics.
func TestPlacesOutOfReach(t *testing.T) {
	const s = "\x01\x00\x00\x00abc\x02\x00\x00\x00"
	if n := readNumber(s, 7); n != 2 {
		t.Errorf("readNumber at the last place = %d", n)
	}
	if x, ok := readSample(s, 0); !ok || x != (api.Sample{At: 1, Labels: api.Labels{'a', 'b', 'c'}, Value: 2}) {
		t.Errorf("readSample at the last place = %+v, %t", x, ok)
	}
	for _, from := range []int{math.MinInt, -1, 8, 11, 12, math.MaxInt} {
		if n := readNumber(s, from); n != 0 {
			t.Errorf("readNumber at %d = %d", from, n)
		}
		if x, ok := readSample(s, from); ok || x != (api.Sample{}) {
			t.Errorf("readSample at %d = %+v, %t", from, x, ok)
		}
	}
	if n := readNumber("abc", 0); n != 0 {
		t.Errorf("readNumber of three bytes = %d", n)
	}
}

// The checks of the document's examples.
func TestCheck(t *testing.T) {
	for _, c := range []struct {
		body string
		want uint32
	}{
		{"", 7},
		{"T\x2c\x01", 290626},
		{"W\x01\x02\x01\x00\x00a-b\xff\xff\xff\xff", 3208610790},
	} {
		if h := check(c.body); h != c.want {
			t.Errorf("check(%q) = %d, want %d", c.body, h, c.want)
		}
	}
}
