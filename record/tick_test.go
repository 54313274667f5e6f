package record

import (
	"testing"

	"garner/api"
)

// example: the document's record of Tick(300).
const example = "\x54\x2c\x01\x42\x6f\x04\x00"

func wantTick(t *testing.T, s string, n int) {
	t.Helper()
	got, size, e := ReadTick(s)
	if got != n || size != 7 || e != api.OK {
		t.Errorf("ReadTick(%x) = %d, %d, %d, want %d, 7, OK", s, got, size, e, n)
	}
}

func wantNoTick(t *testing.T, s string) {
	t.Helper()
	got, size, e := ReadTick(s)
	if got != 0 || size != 0 || e != api.ErrRecord {
		t.Errorf("ReadTick(%x) = %d, %d, %d, want ErrRecord", s, got, size, e)
	}
}

func TestReadTick(t *testing.T) {
	wantTick(t, example, 300)
	wantTick(t, example+"x", 300)
	for n := range 65536 {
		body := string([]byte{'T', byte(n % 256), byte(n / 256)})
		wantTick(t, body+number(check(body)), n)
	}
	for cut := range len(example) {
		wantNoTick(t, example[:cut])
	}
	for i := range len(example) {
		for b := range 256 {
			changed := example[:i] + string([]byte{byte(b)}) + example[i+1:]
			if changed != example {
				wantNoTick(t, changed)
			}
		}
	}
	for b := range 256 {
		body := string([]byte{byte(b), 1, 0})
		if b != 'T' {
			wantNoTick(t, body+number(check(body)))
		}
	}
}

// What OfTick writes is what ReadTick reads, at every n that a Tick may have.
func TestOfTick(t *testing.T) {
	if s := OfTick(300); s != example {
		t.Errorf("OfTick(300) = %x, want %x", s, example)
	}
	for n := 1; n <= api.MaxTick; n++ {
		s := OfTick(n)
		body := string([]byte{'T', byte(n % 256), byte(n / 256)})
		if s != body+number(check(body)) {
			t.Errorf("OfTick(%d) = %x", n, s)
		}
		wantTick(t, s, n)
	}
}
