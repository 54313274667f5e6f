package garner_test

import (
	"strings"
	"testing"

	"garner/api"
	"garner/garner"
)

// The records of the document's examples, one behind the other.
func TestLogExample(t *testing.T) {
	x := begin(t, one(100, 3))
	wantLog(t, x, "")
	wantTick(t, x, 300, api.OK)
	wantLog(t, x, "\x54\x2c\x01\x42\x6f\x04\x00")
	wantWrite(t, x, api.OK, exampleSample())
	wantLog(t, x, "\x54\x2c\x01\x42\x6f\x04\x00"+example)
}

func TestLogOfTicks(t *testing.T) {
	for n := 1; n <= 1000; n++ {
		x := begin(t, example2())
		wantTick(t, x, n, api.OK)
		wantLog(t, x, tickRecord(n))
	}
}

// A batch is one record, however many samples it has, and in their order.
func TestLogOfWrites(t *testing.T) {
	x := beginAt(t, one(100, 3), 50)
	want := tickRecord(50)
	for count := 1; count <= 8; count++ {
		batch := batchAt(50, count)
		batch[0] = at(50-count, "z-a", int32(-count))
		wantWrite(t, x, api.OK, batch...)
		want += writeRecord(t, batch...)
		wantLog(t, x, want)
	}
}

// The order of the changes stays, and no two of them become one.
func TestLogOrder(t *testing.T) {
	x := begin(t, one(10, 3))
	want := ""
	for i := range 50 {
		if i%3 == 2 {
			wantTick(t, x, 1, api.OK)
			want += tickRecord(1)
		} else {
			wantWrite(t, x, api.OK, at(x.Now(), "abc", int32(i)))
			want += writeRecord(t, at(x.Now(), "abc", int32(i)))
		}
		wantLog(t, x, want)
	}
}

// What is refused leaves nothing in the log.
func TestLogRefused(t *testing.T) {
	x := beginAt(t, one(10, 3), 45)
	want := tickRecord(45)
	for _, n := range append([]int{-1, 0, 1001, 65537}, extremes...) {
		wantTick(t, x, n, api.ErrArg)
	}
	wantWrite(t, x, api.ErrBatch)
	wantWrite(t, x, api.ErrBatch, batchAt(45, 9)...)
	for _, wrong := range wrongSamples() {
		wantWrite(t, x, api.ErrSample, at(45, "abc", 1), wrong)
	}
	wantWrite(t, x, api.ErrTime, at(45, "abc", 1), at(46, "abc", 1))
	wantWrite(t, x, api.ErrTime, at(45, "abc", 1), at(9, "abc", 1))
	wantLog(t, x, want)
	for range 62 {
		wantWrite(t, x, api.OK, batchAt(45, 8)...)
	}
	wantWrite(t, x, api.ErrFull, batchAt(45, 5)...)
	want += strings.Repeat(writeRecord(t, batchAt(45, 8)...), 62)
	wantLog(t, x, want)
	tickTo(t, x, 45+99*1000)
	wantTick(t, x, 956, api.ErrArg)
	wantLog(t, x, want+strings.Repeat(tickRecord(1000), 99))
}

// What is expired, or was not admitted, stays in the log.
func TestLogKeepsAll(t *testing.T) {
	x := begin(t, least())
	want := ""
	for i := range 500 {
		s := at(i, string([]byte{byte('a' + i%26), 'b', '-'}), int32(-i))
		wantWrite(t, x, api.OK, s)
		wantTick(t, x, 1, api.OK)
		want += writeRecord(t, s) + tickRecord(1)
	}
	wantLog(t, x, want)
	y := wantOpen(t, least(), want, len(want), 500)
	wantWrite(t, y, api.ErrFull, at(500, "abc", 1))
}

// Behind Open the log goes on where its last record ends that was done.
func TestLogGoesOn(t *testing.T) {
	ahead := tickRecord(300) + writeRecord(t, exampleSample())
	for _, behind := range []string{"", "x", "W", "T", tickRecord(300)[:6], tickRecord(0), tickRecord(1001), writeRecord(t, at(301, "abc", 1)), "x" + tickRecord(1)} {
		x := wantOpen(t, one(100, 3), ahead+behind, len(ahead), 300)
		wantCells(t, x, 1)
		wantTick(t, x, 1, api.OK)
		wantWrite(t, x, api.OK, at(301, "abc", 1), at(300, "abc", 2))
		want := ahead + tickRecord(1) + writeRecord(t, at(301, "abc", 1), at(300, "abc", 2))
		wantLog(t, x, want)
		wantCells(t, x, 3)
		wantOpen(t, one(100, 3), want, len(want), 301)
	}
}

// A log may be opened with another configuration: as much is done as that one accepts.
func TestLogOfAnotherConfiguration(t *testing.T) {
	x := beginAt(t, one(10, 19), 45)
	wantWrite(t, x, api.OK, at(45, "abc", 1), at(10, "abd", 1))
	wantWrite(t, x, api.OK, at(9, "abe", 1))
	wantTick(t, x, 1, api.OK)
	s := x.Log()
	early := tickRecord(45) + writeRecord(t, at(45, "abc", 1), at(10, "abd", 1))
	y := wantOpen(t, one(10, 3), s, len(early), 45)
	wantCells(t, y, 2)
	z := wantOpen(t, one(100, 0), s, len(s), 46)
	wantCells(t, z, 3)
	wantOpen(t, least(), s, 7, 45)
}

// The longest log that can be: it is written, and done again, in no long time.
func TestLogLongest(t *testing.T) {
	x := begin(t, one(100, 19))
	want := strings.Repeat(writeRecord(t, at(0, "abc", 1)), 500) + strings.Repeat(tickRecord(1), 100000)
	for range 500 {
		wantWrite(t, x, api.OK, at(0, "abc", 1))
	}
	for range 100000 {
		if e := x.Tick(1); e != api.OK {
			t.Fatalf("P7: Tick(1) at %d = %d", x.Now(), e)
		}
	}
	wantLog(t, x, want)
	y := wantOpen(t, one(100, 19), want+tickRecord(1), len(want), 100000)
	wantTick(t, y, 1, api.ErrArg)
	wantLog(t, y, want)
}

// The log has nothing to do with the batches that were handed in, nor with what was answered before.
func TestLogOwn(t *testing.T) {
	x := beginAt(t, one(100, 3), 50)
	batch := batchAt(50, 8)
	wantWrite(t, x, api.OK, batch[:3]...)
	if e := x.Write(batch); e != api.OK {
		t.Errorf("P8: Write(%+v) = %d", batch, e)
	}
	want := tickRecord(50) + writeRecord(t, batchAt(50, 3)...) + writeRecord(t, batchAt(50, 8)...)
	first := x.Log()
	spoil(batch)
	wantLog(t, x, want)
	wantTick(t, x, 1, api.OK)
	if first != want {
		t.Errorf("P2: the log that was answered before: %x, want %x", first, want)
	}
	// Two stores out of one log go their own ways.
	y, z := wantOpen(t, one(100, 3), want, len(want), 50), wantOpen(t, one(100, 3), want, len(want), 50)
	wantTick(t, y, 2, api.OK)
	wantTick(t, z, 3, api.OK)
	wantLog(t, x, want+tickRecord(1))
	wantLog(t, y, want+tickRecord(2))
	wantLog(t, z, want+tickRecord(3))
}

// wantSameStore asks both stores the same.
func wantSameStore(t *testing.T, x, y *garner.Store) {
	t.Helper()
	wantLog(t, y, x.Log())
	wantCells(t, y, x.Cells())
	if x.Now() != y.Now() {
		t.Errorf("P6: Now() = %d, want %d", y.Now(), x.Now())
	}
	for _, q := range []api.Query{ask(0, 10, 5, "...", "101"), ask(0, 10, 1, "...", "111"), ask(10, 20, 1, "a..", "111"), ask(0, 20, 10, "..-", "100")} {
		want, e := x.Query(q)
		if e == api.OK {
			wantRows(t, y, q, want...)
		} else {
			wantNoRows(t, y, q, e)
		}
	}
}

// A store out of another's log is as that one, and stays so when the same is done with both.
func TestLogMakesTheSameStore(t *testing.T) {
	x := begin(t, example2())
	for i := range 40 {
		y := wantOpen(t, example2(), x.Log(), len(x.Log()), x.Now())
		wantSameStore(t, x, y)
		batch := []api.Sample{at(x.Now(), "ab-", int32(i)), at(x.Now()/2, string([]byte{byte('a' + i%7), 'b', '-'}), 1)}
		if e, want := y.Write(batch), x.Write(batch); e != want {
			t.Errorf("P6: Write(%+v) = %d, want %d", batch, e, want)
		}
		wantSameStore(t, x, y)
		wantTick(t, x, 1+i%4, api.OK)
		wantTick(t, y, 1+i%4, api.OK)
		wantSameStore(t, x, y)
	}
}

// Questions change nothing, however often and in which order they are asked.
func TestQuestionsChangeNothing(t *testing.T) {
	x := beginAt(t, example2(), 9)
	wantWrite(t, x, api.OK, at(1, "ab-", 5), at(2, "ac-", 7), at(2, "ad-", 1))
	log := tickRecord(9) + writeRecord(t, at(1, "ab-", 5), at(2, "ac-", 7), at(2, "ad-", 1))
	for range 3 {
		wantRows(t, x, ask(0, 10, 5, "...", "000"), row(0, "***", 1, 1, 1, 1), row(0, "...", 2, 12, 5, 7))
		wantCells(t, x, 3)
		wantLog(t, x, log)
		wantNoRows(t, x, api.Query{}, api.ErrQuery)
		wantLog(t, x, log)
		wantCells(t, x, 3)
		if x.Now() != 9 {
			t.Errorf("P2: Now() = %d, want 9", x.Now())
		}
	}
	wantWrite(t, x, api.OK, at(1, "ac-", 1), at(1, "az-", 1))
	wantRows(t, x, ask(0, 10, 5, "...", "010"), row(0, "***", 2, 2, 1, 1), row(0, ".b.", 1, 5, 5, 5), row(0, ".c.", 2, 8, 1, 7))
	wantCells(t, x, 5)
}
