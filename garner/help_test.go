package garner_test

import (
	"math"
	"testing"

	"garner/api"
)

// extremes: numbers far beyond every bound.
var extremes = []int{math.MinInt, math.MinInt + 1, math.MinInt32, math.MaxInt32, math.MaxInt - 1, math.MaxInt}

// lab: three bytes as labels.
func lab(s string) api.Labels { return api.Labels{s[0], s[1], s[2]} }

// at: a sample.
func at(time int, labels string, value int32) api.Sample {
	return api.Sample{At: time, Labels: lab(labels), Value: value}
}

// isLabel: said by a list of all labels, so that it is not the program's own way to tell.
func isLabel(b byte) bool {
	for _, c := range []byte("-abcdefghijklmnopqrstuvwxyz") {
		if b == c {
			return true
		}
	}
	return false
}

// checked: the bytes with their check behind them, reckoned in 64 bits with the modulo written out.
func checked(body string) string {
	h := uint64(7)
	for _, b := range []byte(body) {
		h = (31*h + uint64(b)) % (1 << 32)
	}
	for range 4 {
		body += string([]byte{byte(h % 256)})
		h /= 256
	}
	return body
}

// sameSamples fails the test unless both lists hold the same samples in the same order.
func sameSamples(t *testing.T, what string, got, want []api.Sample) {
	t.Helper()
	if len(got) != len(want) {
		t.Errorf("%s: %d samples, want %d", what, len(got), len(want))
		return
	}
	for i := range got {
		if got[i] != want[i] {
			t.Errorf("%s: sample %d is %+v, want %+v", what, i, got[i], want[i])
		}
	}
}
