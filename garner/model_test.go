package garner_test

import (
	"fmt"
	"math/rand"
	"sort"
	"testing"

	"garner/api"
	"garner/garner"
)

// model: the document's Words taken at their word, with all that was ever accepted.
type model struct {
	c       api.Config
	now     int
	samples []api.Sample
	log     string
	ends    []int
}

// cell: what the Words say of one; start is the first time of its window.
type cell struct {
	start, count int
	series       string
	sum          int64
	min, max     int32
}

func (m *model) age(block int) int { return m.now/m.c.Span - block }

func (m *model) levelOf(block int) int {
	for i := len(m.c.Levels) - 1; i > 0; i-- {
		if m.c.Levels[i].Age <= m.age(block) {
			return i
		}
	}
	return 0
}

// series: those of all samples, each with one for each level.
func (m *model) series() [][]string {
	admitted := make([]map[string]bool, len(m.c.Levels))
	for i := range admitted {
		admitted[i] = map[string]bool{}
	}
	var all [][]string
	for _, x := range m.samples {
		var mine []string
		ahead := x.Labels
		for i, l := range m.c.Levels {
			if i > 0 && mine[i-1] == "***" {
				mine = append(mine, "***")
				continue
			}
			ahead, _ = garner.Project(l.Rule, ahead)
			asked := string(ahead[:])
			if !admitted[i][asked] && len(admitted[i]) >= l.Limit {
				asked = "***"
			} else {
				admitted[i][asked] = true
			}
			mine = append(mine, asked)
		}
		all = append(all, mine)
	}
	return all
}

// cells: all of blocks that are not expired.
func (m *model) cells() map[string]cell {
	cells := map[string]cell{}
	all := m.series()
	for i, x := range m.samples {
		block := x.At / m.c.Span
		if m.age(block) > m.c.Keep {
			continue
		}
		level := m.levelOf(block)
		w := m.c.Levels[level].Window
		name := fmt.Sprint(block, x.At/w, all[i][level])
		c, ok := cells[name]
		if !ok {
			c = cell{start: x.At / w * w, series: all[i][level], min: x.Value, max: x.Value}
		}
		c.count++
		c.sum += int64(x.Value)
		c.min, c.max = min(c.min, x.Value), max(c.max, x.Value)
		cells[name] = c
	}
	return cells
}

func (m *model) tick(n int) api.Errno {
	if n < 1 || n > 1000 || m.now+n > 100000 {
		return api.ErrArg
	}
	m.now += n
	m.wrote(tickRecord(n))
	return api.OK
}

// wrote: the record of an accepted change.
func (m *model) wrote(record string) {
	m.log += record
	m.ends = append(m.ends, len(m.log))
}

func (m *model) write(batch []api.Sample) api.Errno {
	record, e := garner.Record(batch)
	if e != api.OK {
		return e
	}
	for _, x := range batch {
		if x.At > m.now || m.age(x.At/m.c.Span) > m.c.Keep {
			return api.ErrTime
		}
	}
	if len(m.samples)+len(batch) > 500 {
		return api.ErrFull
	}
	m.samples = append(m.samples, batch...)
	m.wrote(record)
	return api.OK
}

// why: the error of a query of right form, block by block, level by level and key by key.
func (m *model) why(q api.Query) api.Errno {
	if m.age(q.From/m.c.Span) > m.c.Keep {
		return api.ErrExpired
	}
	e := api.OK
	for block := q.From / m.c.Span; block <= (q.To-1)/m.c.Span; block++ {
		level := m.levelOf(block)
		for _, l := range m.c.Levels[:level+1] {
			for key := range 3 {
				if (q.Match[key] != '.' || q.By[key] == '1') && l.Rule[key] != 'k' {
					return api.ErrLost
				}
			}
		}
		w := m.c.Levels[level].Window
		if q.From%w != 0 || q.Step%w != 0 {
			e = api.ErrWindow
		}
	}
	return e
}

func (m *model) query(q api.Query) ([]api.Row, api.Errno) {
	e := m.why(q)
	if e != api.OK {
		return nil, e
	}
	rows := map[string]api.Row{}
	for _, c := range m.cells() {
		if c.start < q.From || c.start >= q.To {
			continue
		}
		group := []byte("***")
		if c.series != "***" {
			in := true
			for key := range 3 {
				in = in && (q.Match[key] == '.' || q.Match[key] == c.series[key])
				group[key] = '.'
				if q.By[key] == '1' {
					group[key] = c.series[key]
				}
			}
			if !in {
				continue
			}
		}
		step := (c.start - q.From) / q.Step
		name := fmt.Sprintf("%02d%s", step, group)
		r, ok := rows[name]
		if !ok {
			r = row(step, string(group), 0, 0, c.min, c.max)
		}
		r.Count += c.count
		r.Sum += c.sum
		r.Min, r.Max = min(r.Min, c.min), max(r.Max, c.max)
		rows[name] = r
	}
	var names []string
	for name := range rows {
		names = append(names, name)
	}
	sort.Strings(names)
	var l []api.Row
	for _, name := range names {
		l = append(l, rows[name])
	}
	return l, api.OK
}

// pick: one of the numbers.
func pick(r *rand.Rand, numbers ...int) int { return numbers[r.Intn(len(numbers))] }

// anyConfig: a right configuration.
func anyConfig(r *rand.Rand) api.Config {
	c := api.Config{Span: pick(r, 1, 2, 4, 6, 12, 12, 24, 60, 97, 100), Keep: pick(r, 0, 1, 2, 3, 5, 8, 19)}
	age, window := 0, 1
	for len(c.Levels) < 1+r.Intn(4) && age <= c.Keep {
		for _, w := range []int{window, 2 * window, 3 * window, 5 * window, 1} {
			if w%window == 0 && c.Span%w == 0 && r.Intn(2) == 0 {
				window = w
				break
			}
		}
		rule := []byte("kkk")
		for key := range rule {
			rule[key] = "kkkkgd"[r.Intn(6)]
		}
		c.Levels = append(c.Levels, api.Level{Age: age, Window: window, Rule: string(rule), Limit: pick(r, 1, 2, 3, 4, 6, 10, 20)})
		age += 1 + r.Intn(3)
	}
	return c
}

// anyLabels: with few different ones at each key.
func anyLabels(r *rand.Rand) api.Labels {
	return api.Labels{"abnz-"[r.Intn(5)], "am-"[r.Intn(3)], "qz"[r.Intn(2)]}
}

// anyBatch: times are around those that may be.
func anyBatch(r *rand.Rand, c api.Config, now int) []api.Sample {
	var batch []api.Sample
	far := 1 + r.Intn(c.Span*(c.Keep+1)+2)
	for range 1 + r.Intn(8) {
		x := api.Sample{At: max(0, now-r.Intn(far)), Labels: anyLabels(r), Value: int32(r.Intn(200) - 100)}
		switch r.Intn(40) {
		case 0:
			x.At = now + 1
		case 1:
			x.Value = int32(r.Uint32())
		}
		batch = append(batch, x)
	}
	return batch
}

// anyQuery: of right form, and mostly such that it can be answered.
func anyQuery(r *rand.Rand, c api.Config, now int) api.Query {
	w := c.Levels[r.Intn(len(c.Levels))].Window
	from := max(0, now-r.Intn(c.Span*(c.Keep+2)))
	step := 1 + r.Intn(c.Span)
	if r.Intn(6) > 0 {
		from, step = from/w*w, w*(1+r.Intn(4*c.Span/w))
	}
	match, by := []byte("..."), []byte("000")
	x := anyLabels(r)
	for key := range 3 {
		if r.Intn(5) == 0 {
			match[key] = x[key]
		}
		by[key] = "001"[r.Intn(3)]
	}
	return ask(from, from+step*(1+r.Intn(20)), step, string(match), string(by))
}

// wantLikeModel asks the store and the model the same questions.
func wantLikeModel(t *testing.T, r *rand.Rand, x *garner.Store, m *model, count int) bool {
	t.Helper()
	if x.Now() != m.now {
		t.Errorf("P7: Now() = %d, want %d", x.Now(), m.now)
		return false
	}
	if n, want := x.Cells(), len(m.cells()); n != want {
		t.Errorf("P10: %+v at %d: Cells() = %d, want %d", m.c, m.now, n, want)
		return false
	}
	if x.Log() != m.log {
		t.Errorf("P11: %+v at %d: Log() = %x, want %x", m.c, m.now, x.Log(), m.log)
		return false
	}
	for range count {
		q := anyQuery(r, m.c, m.now)
		got, e := x.Query(q)
		want, wantErr := m.query(q)
		if e != wantErr || !sameRows(got, want) {
			t.Errorf("P9: %+v at %d: Query(%+v) = %+v, %d, want %+v, %d", m.c, m.now, q, got, e, want, wantErr)
			return false
		}
	}
	return true
}

// Many stores, each over a long time, answer as the Words say; so do those that are made out of their logs.
func TestStoreLikeModel(t *testing.T) {
	answered := map[api.Errno]int{}
	for seed := range 400 {
		r := rand.New(rand.NewSource(int64(seed)))
		m := &model{c: anyConfig(r)}
		x := begin(t, m.c)
		for range 60 {
			if r.Intn(3) == 0 {
				n := pick(r, 1, 1, m.c.Span, 1+r.Intn(2*m.c.Span), r.Intn(1100))
				if e, want := x.Tick(n), m.tick(n); e != want {
					t.Fatalf("P7: Tick(%d) = %d, want %d", n, e, want)
				}
			} else {
				batch := anyBatch(r, m.c, m.now)
				e, want := x.Write(batch), m.write(batch)
				if e != want {
					t.Fatalf("P8: %+v at %d: Write(%+v) = %d, want %d", m.c, m.now, batch, e, want)
				}
				answered[e]++
			}
			if !wantLikeModel(t, r, x, m, 4) {
				return
			}
		}
		y := wantOpen(t, m.c, x.Log()+"T", len(m.log), m.now)
		if !wantLikeModel(t, r, y, m, 10) {
			return
		}
		cut := r.Intn(len(m.log) + 1)
		wantCutLikeModel(t, r, m, cut)
	}
	if answered[api.OK] == 0 || answered[api.ErrTime] == 0 {
		t.Errorf("the batches are not of all kinds: %v", answered)
	}
}

// wantCutLikeModel looks at the store that is made out of the model's log, cut at some place.
func wantCutLikeModel(t *testing.T, r *rand.Rand, m *model, cut int) {
	t.Helper()
	done := 0
	for _, end := range m.ends {
		if end <= cut {
			done = end
		}
	}
	part := &model{c: m.c}
	for at := 0; at < done; {
		if m.log[at] == 'T' {
			part.tick(int(m.log[at+1]) + 256*int(m.log[at+2]))
		} else {
			batch, _, _ := garner.Unrecord(m.log[at:])
			part.write(batch)
		}
		at = len(part.log)
	}
	z := wantOpen(t, m.c, m.log[:cut], done, part.now)
	wantLikeModel(t, r, z, part, 10)
}

// In each step of a query that leaves nothing out, the rows together are all samples of that time (P12).
func TestStoreAddsUp(t *testing.T) {
	for seed := range 200 {
		r := rand.New(rand.NewSource(int64(1000 + seed)))
		m := &model{c: anyConfig(r)}
		x := begin(t, m.c)
		for range 60 {
			n := 1 + r.Intn(m.c.Span)
			if r.Intn(3) == 0 && m.tick(n) == api.OK {
				wantTick(t, x, n, api.OK)
			}
			batch := anyBatch(r, m.c, m.now)
			wantWrite(t, x, m.write(batch), batch...)
			q := anyQuery(r, m.c, m.now)
			q.Match = "..."
			rows, e := x.Query(q)
			if e != api.OK {
				continue
			}
			var counts [20]int
			var sums [20]int64
			for _, s := range m.samples {
				if s.At >= q.From && s.At < q.To {
					counts[(s.At-q.From)/q.Step]++
					sums[(s.At-q.From)/q.Step] += int64(s.Value)
				}
			}
			for _, l := range rows {
				counts[l.Step] -= l.Count
				sums[l.Step] -= l.Sum
			}
			if counts != [20]int{} || sums != [20]int64{} {
				t.Fatalf("P12: Query(%+v) = %+v: differ by %v, %v", q, rows, counts, sums)
			}
		}
	}
}
