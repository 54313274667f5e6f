package garner_test

import (
	"strings"
	"testing"

	"garner/api"
	"garner/garner"
)

// tickRecord: the record of a Tick, right or not.
func tickRecord(n int) string {
	return checked(string([]byte{'T', byte(n % 256), byte(n / 256)}))
}

// writeRecord: the record of a Write.
func writeRecord(t *testing.T, batch ...api.Sample) string {
	t.Helper()
	s, e := garner.Record(batch)
	if e != api.OK {
		t.Fatalf("P4: Record(%+v) = %d", batch, e)
	}
	return s
}

// wantOpen looks how many bytes of a log are done, and to which time they lead; these bytes are the store's log.
func wantOpen(t *testing.T, c api.Config, log string, done, now int) *garner.Store {
	t.Helper()
	x, n, e := garner.Open(c, log)
	if x == nil || e != api.OK {
		t.Fatalf("P6: Open(%+v, %.99q) = %d bytes, %d", c, log, n, e)
	}
	if n != done || x.Now() != now {
		t.Errorf("P6: Open of %.99q did %d bytes, Now() = %d, want %d, %d", log, n, x.Now(), done, now)
	}
	wantLog(t, x, log[:done])
	return x
}

func TestOpenWrongConfiguration(t *testing.T) {
	noLevel, manyLevels, wrongRule := one(10, 3), one(10, 3), three()
	noLevel.Levels = nil
	manyLevels.Levels = make([]api.Level, 5)
	wrongRule.Levels[2].Rule = "kd"
	for _, c := range []api.Config{{}, one(0, 3), one(101, 3), one(10, -1), one(10, 20), noLevel, manyLevels, wrongRule} {
		for _, log := range []string{"", "x", tickRecord(300), example} {
			if x, n, e := garner.Open(c, log); x != nil || n != 0 || e != api.ErrConfig {
				t.Errorf("P1, P6: Open(%+v, %q) = %v, %d, %d, want ErrConfig", c, log, x, n, e)
			}
		}
	}
}

func TestOpenEmptyLog(t *testing.T) {
	for _, c := range []api.Config{three(), greatest(), least(), example2()} {
		x := wantOpen(t, c, "", 0, 0)
		wantRows(t, x, ask(0, 100, 100, "...", "000"))
	}
}

func TestOpenDoesALog(t *testing.T) {
	if tickRecord(300) != "\x54\x2c\x01\x42\x6f\x04\x00" {
		t.Fatalf("the document's record of Tick(300): %x", tickRecord(300))
	}
	first := writeRecord(t, at(0, "abc", 3), at(0, "abd", 4), at(0, "abe", 5))
	second := writeRecord(t, at(301, "abd", 6))
	log := first + tickRecord(300) + tickRecord(1) + second
	x := wantOpen(t, one(100, 3), log, len(log), 301)
	wantRows(t, x, ask(0, 400, 100, "...", "001"), row(0, "..c", 1, 3, 3, 3), row(0, "..d", 1, 4, 4, 4), row(0, "..e", 1, 5, 5, 5), row(3, "..d", 1, 6, 6, 6))
	// The store goes on from there.
	wantTick(t, x, 1000, api.OK)
	wantWrite(t, x, api.OK, at(1301, "abc", 1))
	wantOpen(t, one(100, 3), tickRecord(1000)+tickRecord(256), 14, 1256)
}

// The series that a log admits are admitted as by the calls.
func TestOpenAdmits(t *testing.T) {
	log := writeRecord(t, at(0, "aaa", 1)) + writeRecord(t, at(0, "bbb", 1), at(0, "ccc", 1))
	x := wantOpen(t, example2(), log, len(log), 0)
	wantWrite(t, x, api.OK, at(0, "ddd", 1), at(0, "bbb", 1))
	wantRows(t, x, ask(0, 1, 1, "...", "100"), row(0, "***", 2, 2, 1, 1), row(0, "a..", 1, 1, 1, 1), row(0, "b..", 2, 2, 1, 1))
}

// A log that is cut anywhere leads to behind the last record that is whole (P12).
func TestOpenCutLog(t *testing.T) {
	records := []string{
		writeRecord(t, at(0, "abc", 1)), tickRecord(1), tickRecord(1000),
		writeRecord(t, at(1001, "abc", 1), at(1000, "abd", 2)), tickRecord(258), writeRecord(t, batchAt(1259, 8)...),
	}
	log := strings.Join(records, "")
	for cut := range len(log) + 1 {
		done, now, count := 0, 0, 0
		for _, r := range records {
			if done+len(r) > cut {
				break
			}
			done += len(r)
			if r[0] == 'T' {
				now += int(r[1]) + 256*int(r[2])
			} else {
				count += int(r[1])
			}
		}
		for _, behind := range []string{"", "\x00", "x", "T"} {
			// A cut within a record, and something else behind it, must not be mended by chance.
			if cut > done && strings.HasPrefix(log[cut:], behind) && behind != "" {
				continue
			}
			x := wantOpen(t, one(100, 19), log[:cut]+behind, done, now)
			got, _ := x.Query(ask(0, 1300, 1300, "...", "000"))
			total := 0
			for _, r := range got {
				total += r.Count
			}
			if total != count {
				t.Errorf("P6, P12: cut at %d: %d samples, want %d", cut, total, count)
			}
		}
	}
}

// batchAt: a batch of count samples of one time.
func batchAt(time, count int) []api.Sample {
	batch := make([]api.Sample, count)
	for i := range batch {
		batch[i] = at(time, "abc", int32(i))
	}
	return batch
}

// A byte that is another one ends what is done, whatever stands behind it.
func TestOpenChangedByte(t *testing.T) {
	ahead := tickRecord(300)
	for _, r := range []string{tickRecord(300), writeRecord(t, at(258, "a-b", -1))} {
		for i := range len(r) {
			for b := range 256 {
				changed := r[:i] + string([]byte{byte(b)}) + r[i+1:]
				if changed != r {
					wantOpen(t, one(100, 19), ahead+changed+tickRecord(1), len(ahead), 300)
				}
			}
		}
	}
}

// A record with its right check that the store does not accept ends what is done, too.
func TestOpenStopsAtWhatIsNotAccepted(t *testing.T) {
	ahead := tickRecord(45)
	// At 45 the block 0 is expired, if Span is 10 and Keep is 3.
	for _, r := range []string{
		tickRecord(0), tickRecord(1001), tickRecord(65535), tickRecord(256 * 4),
		writeRecord(t, at(46, "abc", 1)), writeRecord(t, at(9, "abc", 1)), writeRecord(t, at(45, "abc", 1), at(100000, "abc", 1)),
		checked("W\x00"), checked("W\x01\x05\x00\x00\x00a*c\x01\x00\x00\x00"), checked("W\x09" + strings.Repeat(example[2:13], 9)),
		checked("T\x01"), checked("T\x01\x00\x00"), checked("t\x01\x00"), checked("X\x01\x00"), checked(""),
	} {
		x := wantOpen(t, one(10, 3), ahead+r+tickRecord(1), len(ahead), 45)
		wantRows(t, x, ask(10, 50, 10, "...", "000"))
		wantOpen(t, one(10, 3), r+ahead, 0, 0)
	}
	// What is not accepted at first may be accepted later.
	soon := writeRecord(t, at(46, "abc", 1))
	wantOpen(t, one(10, 3), ahead+tickRecord(1)+soon, len(ahead)+7+len(soon), 46)
}

func TestOpenStopsAtTheBounds(t *testing.T) {
	log := strings.Repeat(tickRecord(1000), 99) + tickRecord(999)
	wantOpen(t, one(10, 3), log+tickRecord(2)+tickRecord(1), len(log), 99999)
	wantOpen(t, one(10, 3), log+tickRecord(1)+tickRecord(1), len(log)+7, 100000)
	eight := writeRecord(t, batchAt(0, 8)...)
	log = strings.Repeat(eight, 62)
	one1 := writeRecord(t, at(0, "abc", 1))
	wantOpen(t, one(10, 3), log+eight+one1, len(log), 0)
	log += strings.Repeat(one1, 4)
	x := wantOpen(t, one(10, 3), log+one1+tickRecord(1), len(log), 0)
	wantWrite(t, x, api.ErrFull, at(0, "abc", 1))
}

// Open keeps no list that is handed in, and writes into none.
func TestOpenOwn(t *testing.T) {
	var room, want [7]api.Level
	for i := range room {
		room[i] = api.Level{Age: i - 1, Window: 1, Rule: "kkk", Limit: 20}
	}
	want = room
	for count := range 6 {
		x, _, e := garner.Open(api.Config{Span: 10, Keep: 19, Levels: room[1 : 1+count]}, tickRecord(300)+writeRecord(t, at(300, "abc", 1)))
		if room != want {
			t.Errorf("P2: behind Open: %+v, want %+v", room, want)
		}
		if e != api.OK {
			continue
		}
		for i := range room {
			room[i] = api.Level{Age: -7, Window: 0, Rule: "", Limit: -7}
		}
		wantWrite(t, x, api.OK, at(300, "abd", 2), at(200, "abd", 2))
		wantRows(t, x, ask(300, 301, 1, "...", "001"), row(0, "..c", 1, 1, 1, 1), row(0, "..d", 1, 2, 2, 2))
		wantRows(t, x, ask(200, 201, 1, "...", "111"), row(0, "abd", 1, 2, 2, 2))
		room = want
	}
}

func TestOpenAnything(t *testing.T) {
	for a := range 256 {
		wantOpen(t, three(), string([]byte{byte(a)}), 0, 0)
		wantOpen(t, three(), strings.Repeat(string([]byte{byte(a)}), 300), 0, 0)
		wantOpen(t, three(), "T"+strings.Repeat(string([]byte{byte(a)}), 5), 0, 0)
	}
	long := strings.Repeat(tickRecord(1), 100000)
	wantOpen(t, least(), long+long, len(long), 100000)
}
