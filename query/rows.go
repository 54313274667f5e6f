package query

import (
	"garner/api"
	"garner/block"
	"garner/label"
	"garner/series"
)

// Rows tells the answer to a query that Check lets through.
func Rows(c api.Config, now int, q api.Query, points []series.Point) []api.Row {
	if q.Step < 1 {
		return nil
	}
	t := table{}
	for i := 0; i < len(points); i++ {
		p := points[i]
		if p.At < q.From || p.At >= q.To {
			continue
		}
		level := block.Level(c, now, p.At)
		name := p.Of(level)
		group, ok := groupOf(q, name)
		if ok {
			step := (p.At - q.From) / q.Step
			t.add(step, group, p.Value)
		}
	}
	return t.rows
}

// groupOf tells the group to which a series belongs; false if there is none.
func groupOf(q api.Query, name api.Labels) (api.Labels, bool) {
	// What was not admitted may have any labels, so no Match leaves it out.
	if name == series.Rest() {
		return name, true
	}
	if len(q.Match) != label.Keys || len(q.By) != label.Keys {
		return api.Labels{}, false
	}
	group := api.Labels{open, open, open}
	for i := 0; i < label.Keys; i++ {
		if q.Match[i] != open && q.Match[i] != name[i] {
			return api.Labels{}, false
		}
		if q.By[i] == named {
			group[i] = name[i]
		}
	}
	return group, true
}

// table: the rows of an answer, in their order.
type table struct {
	rows []api.Row
}

// add puts a value to the row of a step and a group.
func (t *table) add(step int, group api.Labels, value int32) {
	for i := 0; i < len(t.rows); i++ {
		if t.rows[i].Step == step && t.rows[i].Group == group {
			t.rows[i] = with(t.rows[i], value)
			return
		}
	}
	t.insert(api.Row{Step: step, Group: group, Count: 1, Sum: int64(value), Min: value, Max: value})
}

// insert puts a row in at its place.
func (t *table) insert(row api.Row) {
	t.rows = append(t.rows, row)
	for i := len(t.rows) - 1; i > 0; i-- {
		ahead := t.rows[i-1]
		if !before(row, ahead) {
			return
		}
		t.rows[i] = ahead
		t.rows[i-1] = row
	}
}

// with tells what a value makes of a row.
func with(row api.Row, value int32) api.Row {
	row.Count++
	row.Sum += int64(value)
	if value < row.Min {
		row.Min = value
	}
	if value > row.Max {
		row.Max = value
	}
	return row
}

// before tells whether the row a stands ahead of the row b.
func before(a, b api.Row) bool {
	if a.Step != b.Step {
		return a.Step < b.Step
	}
	for i := 0; i < label.Keys; i++ {
		if a.Group[i] != b.Group[i] {
			return a.Group[i] < b.Group[i]
		}
	}
	return false
}
