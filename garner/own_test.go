package garner_test

import (
	"testing"

	"garner/api"
	"garner/garner"
)

// Record neither writes into the batch nor into what stands around it, be the batch right or not.
func TestRecordWritesIntoNothing(t *testing.T) {
	for _, first := range []api.Sample{exampleSample(), at(-1, "abc", 1), at(1, "a*c", 1)} {
		for count := range 10 {
			room := batchOf(14)
			room[2] = first
			want := append([]api.Sample{}, room...)
			garner.Record(room[2 : 2+count])
			sameSamples(t, "P2: behind Record", room, want)
		}
	}
}

func TestRightWritesIntoNothing(t *testing.T) {
	for _, rule := range []string{"kgd", "wrong"} {
		for count := range 7 {
			var room, want [8]api.Level
			for i := range room {
				room[i] = api.Level{Age: i, Window: 1, Rule: rule, Limit: 20}
			}
			room[0].Age, room[1].Age = 7, 0
			for i := range room {
				want[i] = room[i]
			}
			garner.Right(api.Config{Span: 100, Keep: 19, Levels: room[1 : 1+count]})
			if room != want {
				t.Errorf("P2: behind Right: %+v, want %+v", room, want)
			}
		}
	}
}

// spoil writes into all of a list's room, the spare room too.
func spoil(l []api.Sample) {
	l = l[:cap(l)]
	for i := range l {
		l[i] = at(77777, "qqq", 7)
	}
}

// The lists that Unrecord hands out are the caller's, each for itself.
func TestUnrecordListsAreFresh(t *testing.T) {
	for count := 1; count <= 8; count++ {
		batch := batchOf(count)
		s, _ := garner.Record(batch)
		first, _, _ := garner.Unrecord(s)
		second, _, _ := garner.Unrecord(s)
		spoil(first)
		sameSamples(t, "P2: handed out earlier", second, batch)
		third, _, _ := garner.Unrecord(s)
		sameSamples(t, "P2: handed out later", third, batch)
		spoil(second)
		sameSamples(t, "P2: handed out last", third, batch)
	}
}

// Record and Unrecord keep nothing: what was handed in or out may be written into.
func TestRecordKeepsNothing(t *testing.T) {
	batch := batchOf(8)
	before, _ := garner.Record(batch)
	read, _, _ := garner.Unrecord(before)
	spoil(batch)
	again, e := garner.Record(batchOf(8))
	if again != before || e != api.OK {
		t.Errorf("P2: Record of the same batch: %x, %d, want %x", again, e, before)
	}
	sameSamples(t, "P2: behind a batch that was written into", read, batchOf(8))
}

// The functions answer the same to the same, whatever was asked in between.
func TestAnswersHangOnArgumentsAlone(t *testing.T) {
	for range 3 {
		wantRecord(t, []api.Sample{exampleSample()}, example, api.OK)
		wantRecord(t, nil, "", api.ErrBatch)
		wantRecord(t, []api.Sample{{}}, "", api.ErrSample)
		wantUnrecord(t, example, []api.Sample{exampleSample()}, 17)
		wantNoRecord(t, example[:16])
		wantRight(t, "between others", three(), api.OK)
		wantRight(t, "between others", api.Config{}, api.ErrConfig)
		got, e := garner.Project("kgd", lab("bqz"))
		if got != lab("bn-") || e != api.OK {
			t.Errorf("P2: Project = %q, %d", got, e)
		}
	}
}
