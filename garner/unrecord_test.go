package garner_test

import (
	"strings"
	"testing"

	"garner/api"
	"garner/garner"
)

func wantUnrecord(t *testing.T, s string, want []api.Sample, size int) {
	t.Helper()
	got, n, e := garner.Unrecord(s)
	if n != size || e != api.OK {
		t.Errorf("P5: Unrecord(%x) = %d bytes, %d, want %d bytes, OK", s, n, e, size)
	}
	sameSamples(t, "P5: Unrecord", got, want)
}

func wantNoRecord(t *testing.T, s string) {
	t.Helper()
	got, n, e := garner.Unrecord(s)
	if got != nil || n != 0 || e != api.ErrRecord {
		t.Errorf("P1, P5: Unrecord(%.99q) = %+v, %d, %d, want ErrRecord", s, got, n, e)
	}
}

func TestUnrecordExample(t *testing.T) {
	wantUnrecord(t, example, []api.Sample{exampleSample()}, 17)
}

func TestUnrecordEdges(t *testing.T) {
	wantUnrecord(t, checked("W\x01\x00\x00\x00\x00---\x00\x00\x00\x00"), []api.Sample{at(0, "---", 0)}, 17)
	wantUnrecord(t, checked("W\x01\xa0\x86\x01\x00azm\x00\x00\x00\x80"), []api.Sample{at(100000, "azm", -1<<31)}, 17)
	wantUnrecord(t, checked("W\x01\x9f\x86\x01\x00zan\xff\xff\xff\x7f"), []api.Sample{at(99999, "zan", 1<<31-1)}, 17)
	wantUnrecord(t, checked("W\x02\x04\x03\x00\x00abc\x04\x03\x02\x01\x03\x04\x00\x00def\xfe\xff\xff\xff"), []api.Sample{at(772, "abc", 0x01020304), at(1027, "def", -2)}, 28)
}

func TestUnrecordWhatRecordWrote(t *testing.T) {
	for count := 1; count <= 8; count++ {
		batch := batchOf(count)
		s, e := garner.Record(batch)
		if e != api.OK {
			t.Fatalf("P4: a batch of %d: %d", count, e)
		}
		// What stands behind the record is not looked at.
		for _, behind := range []string{"", "\x00", "W", s, s[:5], checked("T\x01\x00"), strings.Repeat("x", 1000)} {
			wantUnrecord(t, s+behind, batch, len(s))
		}
		for cut := range len(s) {
			wantNoRecord(t, s[:cut])
			if cut > 0 {
				wantNoRecord(t, s[cut:]+s[:cut])
			}
		}
		wantNoRecord(t, "\x00"+s)
	}
}

// Any one byte that is another one is found out by the check.
func TestUnrecordChangedByte(t *testing.T) {
	two, _ := garner.Record(batchOf(2))
	for _, s := range []string{example, two} {
		for i := range len(s) {
			for b := range 256 {
				changed := s[:i] + string([]byte{byte(b)}) + s[i+1:]
				if changed != s {
					wantNoRecord(t, changed)
					wantNoRecord(t, changed+strings.Repeat("\x00", 100))
				}
			}
		}
	}
}

// A right check does not make a record of what is none.
func TestUnrecordWrongWithRightCheck(t *testing.T) {
	body := example[2:13]
	for count := range 256 {
		s := checked("W" + string([]byte{byte(count)}) + strings.Repeat(body, count))
		if count >= 1 && count <= 8 {
			want := make([]api.Sample, count)
			for i := range want {
				want[i] = exampleSample()
			}
			wantUnrecord(t, s, want, 6+11*count)
		} else {
			wantNoRecord(t, s)
		}
	}
	for letter := range 256 {
		if letter != 'W' {
			wantNoRecord(t, checked(string([]byte{byte(letter), 1})+body))
		}
	}
	wantNoRecord(t, checked("T\x2c\x01"))
	wantNoRecord(t, checked(""))
	wantNoRecord(t, checked("W"))
	wantNoRecord(t, checked("W\x02"+body))
	wantNoRecord(t, checked("W\x01"+body+body))
}

func TestUnrecordWrongSamples(t *testing.T) {
	good := example[2:13]
	var wrong []string
	for _, time := range []string{"\xa1\x86\x01\x00", "\x00\x00\x02\x00", "\xa0\x86\x01\x01", "\xff\xff\xff\x7f", "\x00\x00\x00\x80", "\x05\x00\x00\x80", "\xff\xff\xff\xff"} {
		wrong = append(wrong, time+"abc\x01\x00\x00\x00")
	}
	for key := range 3 {
		for b := range 256 {
			labels := []byte("abc")
			labels[key] = byte(b)
			if !isLabel(byte(b)) {
				wrong = append(wrong, "\x05\x00\x00\x00"+string(labels)+"\x01\x00\x00\x00")
			}
		}
	}
	for _, x := range wrong {
		wantNoRecord(t, checked("W\x01"+x))
		wantNoRecord(t, checked("W\x02"+good+x))
		wantNoRecord(t, checked("W\x02"+x+good))
		wantNoRecord(t, checked("W\x08"+strings.Repeat(good, 7)+x))
	}
}

// The check with its high byte first, without the letter, or begun at another number, is not the check.
func TestUnrecordWrongCheck(t *testing.T) {
	body := example[:13]
	wantNoRecord(t, body+"\xbf\x3f\x83\xe6")
	wantNoRecord(t, body+"\x00\x00\x00\x00")
	wantNoRecord(t, body+checked(body[1:])[12:])
	wantNoRecord(t, body+checked("\x00" + body)[14:])
}

func TestUnrecordAnything(t *testing.T) {
	wantNoRecord(t, "")
	for a := range 256 {
		wantNoRecord(t, string([]byte{byte(a)}))
		for b := range 256 {
			wantNoRecord(t, string([]byte{byte(a), byte(b)}))
			wantNoRecord(t, string([]byte{'W', byte(a), byte(b)}))
		}
	}
	for _, s := range []string{"W", "\x00", "\xff", "W\x01", "W\x08", "é"} {
		wantNoRecord(t, strings.Repeat(s, 500000))
	}
}
