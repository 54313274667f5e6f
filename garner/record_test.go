package garner_test

import (
	"math"
	"testing"

	"garner/api"
	"garner/garner"
)

// example: the record of the document's example, and its sample.
const example = "\x57\x01\x02\x01\x00\x00\x61\x2d\x62\xff\xff\xff\xff\xe6\x83\x3f\xbf"

func exampleSample() api.Sample { return at(258, "a-b", -1) }

func wantRecord(t *testing.T, batch []api.Sample, want string, wantErr api.Errno) {
	t.Helper()
	got, e := garner.Record(batch)
	if got != want || e != wantErr {
		t.Errorf("P1, P4: Record(%+v) = %x, %d, want %x, %d", batch, got, e, want, wantErr)
	}
}

func TestRecordExample(t *testing.T) {
	wantRecord(t, []api.Sample{exampleSample()}, example, api.OK)
}

func TestRecordBytes(t *testing.T) {
	for _, c := range []struct {
		x    api.Sample
		body string
	}{
		{at(0, "---", 0), "\x00\x00\x00\x00---\x00\x00\x00\x00"},
		{at(1, "abc", 1), "\x01\x00\x00\x00abc\x01\x00\x00\x00"},
		{at(255, "zzz", 255), "\xff\x00\x00\x00zzz\xff\x00\x00\x00"},
		{at(256, "a--", -256), "\x00\x01\x00\x00a--\x00\xff\xff\xff"},
		{at(65536, "-m-", 0x01020304), "\x00\x00\x01\x00-m-\x04\x03\x02\x01"},
		{at(99999, "--n", math.MaxInt32), "\x9f\x86\x01\x00--n\xff\xff\xff\x7f"},
		{at(100000, "xyz", math.MinInt32), "\xa0\x86\x01\x00xyz\x00\x00\x00\x80"},
	} {
		wantRecord(t, []api.Sample{c.x}, checked("W\x01"+c.body), api.OK)
		wantRecord(t, []api.Sample{c.x, exampleSample()}, checked("W\x02"+c.body+example[2:13]), api.OK)
		wantRecord(t, []api.Sample{exampleSample(), c.x}, checked("W\x02"+example[2:13]+c.body), api.OK)
	}
}

// batchOf: a right batch of count different samples.
func batchOf(count int) []api.Sample {
	var batch []api.Sample
	for i := range count {
		x := at(100000-12499*i%100001, "q-d", int32(i)*987654321)
		x.Labels[i%3] = byte('a' + 3*i%26)
		batch = append(batch, x)
	}
	return batch
}

func TestRecordHowMany(t *testing.T) {
	wantRecord(t, nil, "", api.ErrBatch)
	wantRecord(t, []api.Sample{}, "", api.ErrBatch)
	for count := 1; count <= 8; count++ {
		s, e := garner.Record(batchOf(count))
		if e != api.OK || len(s) != 2+11*count+4 || s[1] != byte(count) || s != checked(s[:len(s)-4]) {
			t.Errorf("P4: a batch of %d: %x, %d", count, s, e)
		}
	}
	for _, count := range []int{9, 10, 255, 256, 257, 264, 65537} {
		many := make([]api.Sample, count)
		// Wrong samples beside the wrong number: the error named first is the answer.
		wantErrBatch := func() {
			if s, e := garner.Record(many); s != "" || e != api.ErrBatch {
				t.Errorf("P1, P4: a batch of %d: %x, %d, want ErrBatch", count, s, e)
			}
		}
		wantErrBatch()
		for i := range many {
			many[i] = exampleSample()
		}
		wantErrBatch()
	}
}

// wrongSamples: samples that are not right.
func wrongSamples() []api.Sample {
	wrong := []api.Sample{{}, {At: 5, Value: 5}, at(-1, "abc", 1), at(100001, "abc", 1), at(5, "***", 1), at(5, "...", 1)}
	for _, n := range extremes {
		wrong = append(wrong, at(n, "abc", 1))
	}
	for key := range 3 {
		for b := range 256 {
			x := at(5, "abc", 1)
			x.Labels[key] = byte(b)
			if !isLabel(byte(b)) {
				wrong = append(wrong, x)
			}
		}
	}
	return wrong
}

func TestRecordWrongSamples(t *testing.T) {
	for _, x := range wrongSamples() {
		wantRecord(t, []api.Sample{x}, "", api.ErrSample)
		for place := range 8 {
			batch := batchOf(8)
			batch[place] = x
			wantRecord(t, batch, "", api.ErrSample)
		}
	}
}

// The order of a batch and repeated samples stay as they are.
func TestRecordKeepsOrder(t *testing.T) {
	a, b := at(9, "abc", 3), at(2, "ab-", -3)
	bodyA, bodyB := "\x09\x00\x00\x00abc\x03\x00\x00\x00", "\x02\x00\x00\x00ab-\xfd\xff\xff\xff"
	wantRecord(t, []api.Sample{a, b, a}, checked("W\x03"+bodyA+bodyB+bodyA), api.OK)
	wantRecord(t, []api.Sample{b, a, a}, checked("W\x03"+bodyB+bodyA+bodyA), api.OK)
}
