package garner_test

import (
	"testing"

	"garner/api"
	"garner/garner"
)

// example2: the configuration of the document's example, of two levels.
func example2() api.Config {
	return api.Config{Span: 10, Keep: 3, Levels: []api.Level{
		{Age: 0, Window: 1, Rule: "kkk", Limit: 2},
		{Age: 1, Window: 5, Rule: "kdk", Limit: 2},
	}}
}

// one: a configuration of one level that keeps all labels.
func one(span, keep int) api.Config {
	return api.Config{Span: span, Keep: keep, Levels: []api.Level{{Window: 1, Rule: "kkk", Limit: 20}}}
}

// begin: a new store.
func begin(t *testing.T, c api.Config) *garner.Store {
	t.Helper()
	x, n, e := garner.Open(c, "")
	if x == nil || n != 0 || e != api.OK {
		t.Fatalf("P6: Open(%+v, \"\") = %d bytes, %d", c, n, e)
	}
	return x
}

// beginAt: a new store at the time now.
func beginAt(t *testing.T, c api.Config, now int) *garner.Store {
	t.Helper()
	x := begin(t, c)
	tickTo(t, x, now)
	return x
}

// tickTo lets the time go on to now, as far as may be at once.
func tickTo(t *testing.T, x *garner.Store, now int) {
	t.Helper()
	for x.Now() < now {
		wantTick(t, x, min(1000, now-x.Now()), api.OK)
	}
	if x.Now() != now {
		t.Fatalf("P7: Now() = %d, want %d", x.Now(), now)
	}
}

// wantTick also looks that the time goes on by n, and not if there is an error.
func wantTick(t *testing.T, x *garner.Store, n int, want api.Errno) {
	t.Helper()
	now := x.Now()
	if want == api.OK {
		now += n
	}
	if e := x.Tick(n); e != want || x.Now() != now {
		t.Fatalf("P7: Tick(%d) = %d, Now() = %d, want %d, %d", n, e, x.Now(), want, now)
	}
}

func wantWrite(t *testing.T, x *garner.Store, want api.Errno, batch ...api.Sample) {
	t.Helper()
	if e := x.Write(batch); e != want {
		t.Errorf("P8: Write(%+v) = %d, want %d", batch, e, want)
	}
}

// ask: a query.
func ask(from, to, step int, match, by string) api.Query {
	return api.Query{From: from, To: to, Step: step, Match: match, By: by}
}

// row: a row.
func row(step int, group string, count int, sum int64, least, greatest int32) api.Row {
	return api.Row{Step: step, Group: lab(group), Count: count, Sum: sum, Min: least, Max: greatest}
}

// sameRows tells whether both lists hold the same rows in the same order.
func sameRows(a, b []api.Row) bool {
	if len(a) != len(b) {
		return false
	}
	for i := range a {
		if a[i] != b[i] {
			return false
		}
	}
	return true
}

func wantRows(t *testing.T, x *garner.Store, q api.Query, want ...api.Row) {
	t.Helper()
	got, e := x.Query(q)
	if e != api.OK || !sameRows(got, want) {
		t.Errorf("P9: at %d Query(%+v) = %+v, %d, want %+v", x.Now(), q, got, e, want)
	}
}

func wantNoRows(t *testing.T, x *garner.Store, q api.Query, want api.Errno) {
	t.Helper()
	if got, e := x.Query(q); got != nil || e != want {
		t.Errorf("P1, P9: at %d Query(%+v) = %+v, %d, want %d", x.Now(), q, got, e, want)
	}
}

func wantCells(t *testing.T, x *garner.Store, want int) {
	t.Helper()
	if n := x.Cells(); n != want {
		t.Errorf("P10: at %d Cells() = %d, want %d", x.Now(), n, want)
	}
}

func wantLog(t *testing.T, x *garner.Store, want string) {
	t.Helper()
	if s := x.Log(); s != want {
		t.Errorf("P11: at %d Log() = %.99x (%d bytes), want %.99x (%d bytes)", x.Now(), s, len(s), want, len(want))
	}
}

// The document's example, up to the block's end.
func TestStoreExample(t *testing.T) {
	x := beginAt(t, example2(), 9)
	wantWrite(t, x, api.OK, at(1, "ab-", 5), at(2, "ac-", 7), at(2, "ad-", 1))
	wantRows(t, x, ask(0, 10, 5, "...", "000"), row(0, "***", 1, 1, 1, 1), row(0, "...", 2, 12, 5, 7))
	wantRows(t, x, ask(0, 10, 5, "...", "010"), row(0, "***", 1, 1, 1, 1), row(0, ".b.", 1, 5, 5, 5), row(0, ".c.", 1, 7, 7, 7))
	wantCells(t, x, 3)
	wantTick(t, x, 1, api.OK)
	wantNoRows(t, x, ask(0, 10, 5, "...", "010"), api.ErrLost)
	wantNoRows(t, x, ask(0, 10, 2, "...", "000"), api.ErrWindow)
	wantRows(t, x, ask(0, 10, 5, "a..", "101"), row(0, "***", 1, 1, 1, 1), row(0, "a.-", 2, 12, 5, 7))
	wantCells(t, x, 2)
	wantWrite(t, x, api.OK, at(3, "ae-", 4))
	wantRows(t, x, ask(0, 10, 5, "a..", "101"), row(0, "***", 2, 5, 1, 4), row(0, "a.-", 2, 12, 5, 7))
	wantTick(t, x, 30, api.OK)
	wantNoRows(t, x, ask(0, 10, 5, "...", "000"), api.ErrExpired)
	wantWrite(t, x, api.ErrTime, at(3, "ab-", 1))
	wantCells(t, x, 0)
	first := writeRecord(t, at(1, "ab-", 5), at(2, "ac-", 7), at(2, "ad-", 1))
	wantLog(t, x, tickRecord(9)+first+tickRecord(1)+writeRecord(t, at(3, "ae-", 4))+tickRecord(30))
}
