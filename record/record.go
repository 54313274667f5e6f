// Package record: accepted changes as bytes.
package record

import (
	"garner/api"
	"garner/sample"
)

// headSize is how many bytes stand ahead of the samples: the letter, and how many samples there are.
const headSize = 2

// Where the parts of a sample stand within its bytes, and how many bytes these are.
const (
	timePlace   = 0
	labelsPlace = 4
	valuePlace  = 7
	sampleSize  = 11
)

// OfBatch tells the record of a Write of a batch that is right.
func OfBatch(batch []api.Sample) string {
	s := string([]byte{'W', byte(len(batch))})
	for i := 0; i < len(batch); i++ {
		s += ofSample(batch[i])
	}
	sum := check(s)
	return s + number(sum)
}

// ofSample tells the bytes of a sample that is right.
func ofSample(x api.Sample) string {
	s := number(uint32(x.At))
	s += string([]byte{x.Labels[0], x.Labels[1], x.Labels[2]})
	// The conversion is what adds 2^32 to a value below 0.
	s += number(uint32(x.Value))
	return s
}

// ReadBatch reads the record of a Write with which s begins: its samples, and how many bytes it has.
func ReadBatch(s string) ([]api.Sample, int, api.Errno) {
	size := batchSize(s)
	if size == 0 {
		return nil, 0, api.ErrRecord
	}
	var batch []api.Sample
	for from := headSize; from+sampleSize <= size-numberSize; from += sampleSize {
		x, ok := readSample(s, from)
		if !ok {
			return nil, 0, api.ErrRecord
		}
		batch = append(batch, x)
	}
	return batch, size, api.OK
}

// batchSize tells how many bytes the record of a Write has with which s begins.
// It is 0 if there stands none that is whole, with 1 to MaxBatch samples and the right check.
func batchSize(s string) int {
	if len(s) < headSize || s[0] != 'W' {
		return 0
	}
	count := int(s[1])
	if count < 1 || count > api.MaxBatch {
		return 0
	}
	body := headSize + count*sampleSize
	if len(s) < body+numberSize {
		return 0
	}
	sum := check(s[:body])
	if readNumber(s, body) != sum {
		return 0
	}
	return body + numberSize
}

// readSample reads the bytes of a sample from the place from on; false if there stands no right one.
func readSample(s string, from int) (api.Sample, bool) {
	if from < 0 || from > len(s)-sampleSize {
		return api.Sample{}, false
	}
	at := readNumber(s, from+timePlace)
	// Tested ahead of the conversion, so that nothing hangs on how wide an int is.
	if at > api.MaxNow {
		return api.Sample{}, false
	}
	value := readNumber(s, from+valuePlace)
	place := from + labelsPlace
	labels := api.Labels{s[place], s[place+1], s[place+2]}
	x := api.Sample{At: int(at), Labels: labels, Value: int32(value)}
	if !sample.Right(x) {
		return api.Sample{}, false
	}
	return x, true
}
