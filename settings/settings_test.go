package settings

import (
	"math"
	"slices"
	"strconv"
	"strings"
	"testing"

	"culet/api"
	"culet/plane"
)

func set(h, v, i int) api.Setting { return api.Setting{H: h, V: v, Index: i} }

func samples() []api.Setting {
	return []api.Setting{set(0, 1, 0), set(0, -1, 0), set(1, 0, 0), set(1, 0, 23), set(3, -4, 1), set(3, 4, 5), set(1, 1, 7), set(1000, 1, 2), set(1, -1000, 3), set(999, 1000, 4), set(1000, -999, 4), set(7, 3, 9), set(1, 1, 8)}
}

func invalid() []api.Setting {
	return []api.Setting{{}, set(2, 4, 0), set(-1, 1, 0), set(1001, 1, 0), set(1, 1001, 0), set(1, 1, 24), set(0, 1, 1), set(0, 2, 0), set(1, math.MinInt, 0)}
}

func TestSides(t *testing.T) { // P48.1
	for s, want := range map[api.Setting]int{set(0, 1, 0): Table, set(0, -1, 0): Culet, set(1, 0, 3): Girdle, set(4, 3, 3): Crown, set(1, 1, 7): Crown, set(4, -3, 3): Pavilion, set(1, -1, 3): Pavilion} {
		if Side(s) != want || !Valid(s) {
			t.Errorf("P48.1: %v: %d", s, Side(s))
		}
	}
	for i, s := range invalid() {
		_, _, e1 := Slide(s)
		text, e2 := Line(s, 0)
		lines, e3 := Sheet([]api.Setting{samples()[0], s}, 96)
		if Valid(s) || Valid(s) != plane.ValidSetting(s) || Side(s) != 0 || Steeper(s, samples()[0]) || Steeper(samples()[2], s) || e1 != api.ErrArg || e2 != api.ErrArg || e3 != api.ErrArg || text != "" || lines != nil {
			t.Errorf("P48.1: %d", i)
		}
	}
}

func TestTeeth(t *testing.T) { // P48.2
	for teeth := -1; teeth < 203; teeth++ {
		right := teeth >= 1 && teeth <= 200
		all := true
		for i := -30; i < 60; i++ {
			tooth, cheater, e := Tooth(i, teeth)
			if !right {
				if tooth != 0 || cheater != 0 || e != api.ErrRange {
					t.Fatalf("P48.1: %d: %v", teeth, e)
				}
				continue
			}
			place := (i%24 + 24) % 24
			n := (tooth%teeth)*24 + cheater
			back, e2 := Index(tooth, cheater, teeth)
			if e != api.OK || e2 != api.OK || tooth < 1 || tooth > teeth || n != place*teeth || back != place {
				t.Fatalf("P48.2: %d of %d: %d %d %d", i, teeth, tooth, cheater, back)
			}
			all = all && cheater == 0
			if Fits(teeth) {
				next, _, _ := Tooth(i+1, teeth)
				if (next-tooth+teeth)%teeth != teeth/24%teeth {
					t.Fatalf("P48.2: %d of %d", i, teeth)
				}
			}
		}
		if Fits(teeth) != (right && all) {
			t.Errorf("P48.1: Fits(%d)", teeth)
		}
		if !right {
			if _, e := Index(1, 0, teeth); e != api.ErrRange {
				t.Errorf("P48.1: %d: %v", teeth, e)
			}
			continue
		}
		for tooth := 0; tooth <= teeth+1; tooth += 1 + teeth/9 {
			for cheater := -1; cheater < 25; cheater++ {
				i, e := Index(tooth, cheater, teeth)
				switch {
				case tooth < 1 || tooth > teeth || cheater < 0 || cheater > 23:
					if e != api.ErrRange || i != 0 {
						t.Fatalf("P48.1: %d %d %d: %v", tooth, cheater, teeth, e)
					}
				case e == api.OK:
					if a, b, _ := Tooth(i, teeth); a != tooth || b != cheater || i < 0 || i > 23 {
						t.Fatalf("P48.2: %d %d %d: %d", tooth, cheater, teeth, i)
					}
				case e != api.ErrNone || i != 0:
					t.Fatalf("P48.1: %d %d %d: %v", tooth, cheater, teeth, e)
				}
			}
		}
	}
	for i, c := range [][4]int{{1, 96, 4, 0}, {0, 96, 96, 0}, {1, 80, 3, 8}} {
		if a, b, _ := Tooth(c[0], c[1]); a != c[2] || b != c[3] {
			t.Errorf("P48.2: example %d: %d %d", i, a, b)
		}
	}
	if a, b, e := Tooth(math.MinInt, 96); a != (math.MinInt%24+24)*4 || b != 0 || e != api.OK {
		t.Errorf("P48.1: %d %d %v", a, b, e)
	}
}

func TestSlides(t *testing.T) { // P48.3
	for _, s := range samples() {
		n, exact, e := Slide(s)
		if s.V == 0 {
			if n != 0 || exact || e != api.ErrAngle {
				t.Errorf("P48.1: %v: %v", s, e)
			}
			continue
		}
		v := max(s.V, -s.V)
		if e != api.OK || n*v > 1000*s.H || (n+1)*v <= 1000*s.H || exact != (n*v == 1000*s.H) {
			t.Errorf("P48.1: %v: %d %v", s, n, exact)
		}
		for _, o := range samples() {
			if m, _, e := Slide(o); e == api.OK && Steeper(s, o) && n < m {
				t.Errorf("P48.3: %v %v", s, o)
			}
		}
		if back, e := FromSlide(n, s.Index, s.V > 0); exact && (back != s || e != api.OK) {
			t.Errorf("P48.3: %v: %v %v", s, back, e)
		}
	}
	for _, n := range []int{0, 1, 2, 750, 999, 1000, 1500, 12345, 999000, 1000000} {
		for _, up := range []bool{false, true} {
			s, e := FromSlide(n, 30, up)
			if e != api.OK {
				if e != api.ErrAngle || s != (api.Setting{}) || n != 12345 {
					t.Errorf("P48.1: %d: %v", n, e)
				}
				continue
			}
			m, exact, _ := Slide(s)
			if m != n || !exact || (s.V > 0) != up || n > 0 && s.Index != 6 || n == 0 && s.Index != 0 {
				t.Errorf("P48.3: %d: %v", n, s)
			}
		}
	}
	for _, n := range []int{-1, 1000001} {
		if s, e := FromSlide(n, 0, true); s != (api.Setting{}) || e != api.ErrRange {
			t.Errorf("P48.1: %d: %v", n, e)
		}
	}
}

func TestOrder(t *testing.T) { // P48.4
	slope := func(s api.Setting) float64 {
		if s.V == 0 {
			return math.Inf(1)
		}
		return float64(s.H) / math.Abs(float64(s.V))
	}
	for _, a := range samples() {
		for _, b := range samples() {
			if Steeper(a, b) != (slope(a) > slope(b)) || Steeper(a, b) && Steeper(b, a) {
				t.Errorf("P48.4: %v %v", a, b)
			}
			for _, c := range samples() {
				if Steeper(a, b) && Steeper(b, c) && !Steeper(a, c) {
					t.Errorf("P48.4: %v %v %v", a, b, c)
				}
			}
		}
	}
}

func TestReduce(t *testing.T) { // P48.5
	for _, s := range samples() {
		for _, k := range []int{1, 2, 17, 1000000} {
			got, e := Reduce(k*s.H, k*s.V, s.Index-48)
			if got != s || e != api.OK {
				t.Errorf("P48.5: %v times %d: %v %v", s, k, got, e)
			}
		}
	}
	for i, c := range []struct {
		h, v int
		want api.Setting
		e    api.Errno
	}{
		{0, 0, api.Setting{}, api.ErrArg}, {-1, 5, api.Setting{}, api.ErrArg}, {math.MinInt, 0, api.Setting{}, api.ErrArg}, {1001, 1000, api.Setting{}, api.ErrAngle}, {1, 1001, api.Setting{}, api.ErrAngle}, {1, math.MinInt, api.Setting{}, api.ErrAngle}, {0, math.MinInt, set(0, -1, 0), api.OK}, {0, 77, set(0, 1, 0), api.OK}, {5, 0, set(1, 0, 3), api.OK}, {math.MaxInt, math.MaxInt, set(1, 1, 3), api.OK}, {1 << 62, math.MinInt, set(1, -2, 3), api.OK},
	} {
		if s, e := Reduce(c.h, c.v, 27); s != c.want || e != c.e {
			t.Errorf("P48.5: %d: %v %v", i, s, e)
		}
	}
}

func TestSheet(t *testing.T) { // P48.6
	for _, teeth := range []int{96, 80, 1, 200} {
		lines, e := Sheet(samples(), teeth)
		if e != api.OK || len(lines) != len(samples()) {
			t.Fatalf("P48.6: %v", e)
		}
		last := math.MaxInt
		for _, s := range lines {
			words := strings.Fields(s)
			if words[1] == "girdle" {
				if last != math.MaxInt {
					t.Errorf("P48.6: %v", lines)
				}
				continue
			}
			n, err := strconv.Atoi(words[1])
			if err != nil || n > last || len(words) != 3 {
				t.Errorf("P48.6: %v", lines)
			}
			last = n
		}
		want := samples()
		slices.SortStableFunc(want, func(a, b api.Setting) int {
			if Steeper(a, b) {
				return -1
			}
			if Steeper(b, a) {
				return 1
			}
			return 0
		})
		for i, s := range want {
			if text, e := Line(s, teeth); text != lines[i] || e != api.OK {
				t.Errorf("P48.6: %d: %q, want %q", i, lines[i], text)
			}
		}
	}
	for s, want := range map[api.Setting]string{set(3, -4, 1): "4 750 down", set(1, 0, 0): "96 girdle", set(0, 1, 0): "96 0 up"} {
		if text, _ := Line(s, 96); text != want {
			t.Errorf("P48.6: %v: %s", s, text)
		}
	}
	if text, _ := Line(set(2, 3, 1), 80); text != "3+8 666 up" {
		t.Errorf("P48.6: %s", text)
	}
	many := slices.Repeat(samples()[:1], 101)
	_, e1 := Sheet(many, 0)
	_, e2 := Sheet(many[:100], 0)
	lines, e3 := Sheet(many[:100], 96)
	_, e4 := Line(many[0], 201)
	if e1 != api.ErrLimit || e2 != api.ErrRange || e3 != api.OK || len(lines) != 100 || e4 != api.ErrRange {
		t.Errorf("P48.1: %v %v %v %v", e1, e2, e3, e4)
	}
	if lines, e := Sheet(nil, 0); len(lines) != 0 || e != api.OK {
		t.Errorf("P48.1: %v", e)
	}
	if _, e := Sheet([]api.Setting{set(1, 1, 1), {}}, 0); e != api.ErrRange {
		t.Errorf("P48.1: first error in order: %v", e)
	}
}
