package cache_test

import (
	"slices"
	"testing"

	"corral/cache"
)

// dice is numbers without a pattern, the same in each run.
type dice uint32

func (d *dice) next(n int) int {
	*d = *d*1664525 + 1013904223
	return int(*d>>8) % n
}

// line is one of a few sets, now and then a wrong one.
func (d *dice) line(sets int) int {
	if d.next(25) == 0 {
		return -d.next(sets+2) - 1
	}
	return d.next(sets)%5 + sets*d.next(12)
}

func TestLongRuns(t *testing.T) { // P17.1, P17.2: calls in many orders, wrong ones among them
	d := dice(3)
	for run := range 105 {
		sets, ways := 1<<(run%7), 1+run/7%8
		c, m := made(t, sets, ways)
		for range 120 {
			line := d.line(sets)
			switch d.next(6) {
			case 0, 1, 2:
				e := cache.Entry{Line: line, State: 1 + d.next(4)}
				if d.next(15) == 0 {
					e.State = d.next(9) - 2
				}
				e.Data[d.next(4)] = uint32(d.next(1000))
				put(t, c, m, e)
			case 3, 4:
				used(t, c, m, line)
			default:
				dropped(t, c, m, line)
			}
			check(t, c, m)
			tryVictim(t, c, m, &d, line)
		}
	}
}

// tryVictim holds Victim against the model with some of the lines that are there among not, and some that aren't.
func tryVictim(t *testing.T, c *cache.Cache, m *model, d *dice, line int) {
	t.Helper()
	var not []int
	for _, e := range m.all() {
		if d.next(2) == 0 {
			not = append(not, e.Line)
		}
	}
	for range d.next(3) {
		not = slices.Insert(not, d.next(len(not)+1), d.line(m.sets))
	}
	want, is := m.victim(line, not)
	if got, there := c.Victim(line, not...); got != want || there != is {
		t.Fatalf("Victim(%d, %v) is %v %v, not %v %v", line, not, got, there, want, is)
	}
}

func TestShortRuns(t *testing.T) { // P17.1, P17.2: every run of five calls on three lines of a set
	for _, ways := range []int{1, 2, 3} {
		for run := range 9 * 9 * 9 * 9 * 9 {
			c, m := made(t, 2, ways)
			for range 5 {
				line := 1 + 2*(run%3)
				switch run / 3 % 3 {
				case 0:
					put(t, c, m, shared(line))
				case 1:
					used(t, c, m, line)
				case 2:
					dropped(t, c, m, line)
				}
				run /= 9
			}
			if got, want := order(t, c, 1), m.order(1); !slices.Equal(got, want) || c.Len() != len(want) {
				t.Fatalf("%d ways: %v, not %v", ways, got, want)
			}
		}
	}
}
