package garner_test

import (
	"testing"

	"garner/api"
	"garner/garner"
)

func TestProjectExamples(t *testing.T) {
	for _, c := range []struct{ rule, in, out string }{
		{"kgd", "bqz", "bn-"},
		{"ggg", "-mn", "-an"},
		{"kkk", "abz", "abz"},
		{"ddd", "abc", "---"},
		{"ddd", "---", "---"},
		{"dgk", "xyz", "-nz"},
		{"gkd", "mmm", "am-"},
	} {
		got, e := garner.Project(c.rule, lab(c.in))
		if got != lab(c.out) || e != api.OK {
			t.Errorf("P3: Project(%q, %q) = %q, %d, want %q", c.rule, c.in, got, e, c.out)
		}
	}
}

// made: what a byte of a rule makes of a label, said by a table.
func made(rule, b byte) byte {
	const from = "-abcdefghijklmnopqrstuvwxyz"
	to := map[byte]string{
		'k': "-abcdefghijklmnopqrstuvwxyz",
		'g': "-aaaaaaaaaaaaannnnnnnnnnnnn",
		'd': "---------------------------",
	}
	for i := range len(from) {
		if from[i] == b {
			return to[rule][i]
		}
	}
	return 0
}

// Every byte at every key under every rule: labels are projected, all else is refused.
func TestProjectEveryByte(t *testing.T) {
	for n := range 27 {
		rule := string([]byte{"kgd"[n%3], "kgd"[n/3%3], "kgd"[n/9]})
		for key := range 3 {
			for b := range 256 {
				in := lab("b-y")
				in[key] = byte(b)
				want, wantErr := api.Labels{}, api.ErrLabels
				if isLabel(byte(b)) {
					wantErr = api.OK
					for k := range 3 {
						want[k] = made(rule[k], in[k])
					}
				}
				got, e := garner.Project(rule, in)
				if got != want || e != wantErr {
					t.Errorf("P3: Project(%q, %q) = %q, %d, want %q, %d", rule, in, got, e, want, wantErr)
				}
			}
		}
	}
}

func TestProjectWrongRule(t *testing.T) {
	bad := []string{"", "k", "kk", "kkkk", "kgdk", "kkk\x00", "KKK", "g g", "***", "...", "---", "abc", "k\xc3\xa9", "ddd\n"}
	for key := range 3 {
		for b := range 256 {
			rule := []byte("kgd")
			rule[key] = byte(b)
			if b != 'k' && b != 'g' && b != 'd' {
				bad = append(bad, string(rule))
			}
		}
	}
	for _, rule := range bad {
		// The second labels are wrong too: the error named first is the answer.
		for _, in := range []string{"abc", "a*c", "\x00\x00\x00"} {
			got, e := garner.Project(rule, lab(in))
			if got != (api.Labels{}) || e != api.ErrRule {
				t.Errorf("P1, P3: Project(%q, %q) = %q, %d, want ErrRule", rule, in, got, e)
			}
		}
	}
}

func TestProjectWrongLabels(t *testing.T) {
	for _, rule := range []string{"kkk", "ggg", "ddd", "kgd"} {
		for _, in := range []string{"aB-", "***", "...", "\x00\x00\x00", "\xff\xff\xff", "`ab", "a{b", "ab ", "1aa", "a*-"} {
			got, e := garner.Project(rule, lab(in))
			if got != (api.Labels{}) || e != api.ErrLabels {
				t.Errorf("P1, P3: Project(%q, %q) = %q, %d, want ErrLabels", rule, in, got, e)
			}
		}
	}
}
