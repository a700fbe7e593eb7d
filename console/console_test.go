package console

import (
	"reflect"
	"slices"
	"strings"
	"testing"

	"culet/api"
	"culet/clone"
	"culet/format"
	"culet/measure"
	"culet/resolve"
	"culet/section"
	"culet/syntax"
)

const (
	cube = "design cube order 4 tier top angle 0/1 at 0 depth 1 tier bottom angle 0/-1 at 0 depth 1 tier side angle 1/0 at 0 depth 1"
	gem  = `design gem order 8 mirror tier P angle 1/-1 at 0 depth 2 tier G angle 1/0 at 0 edge P:0 P:3 height "-1/3" tier M angle 1/1 at 0 depth 2 tier S angle 3/4 at 1 meet M:0 M:3 G:0 tier T angle 0/1 at 0 edge S:1 S:2 height "9/10"`
)

func space(t *testing.T, text string) Space {
	t.Helper()
	s, answers := Do(Space{}, text)
	if !slices.Equal(answers, []string{"ok"}) || !Valid(s) || !s.Has {
		t.Fatalf("P58.1: %v", answers)
	}
	return s
}

func TestCommands(t *testing.T) { // P58.1
	for _, c := range []struct {
		text, line string
		want       []string
	}{
		{cube, "show", []string{"design cube order 4", "tier top angle 0/1 at 0 depth 1", "tier bottom angle 0/-1 at 0 depth 1", "tier side angle 1/0 at 0 depth 1"}},
		{cube, "depths", []string{"top 1", "bottom 1", "side 1"}},
		{cube, "solid", []string{"faces 6 vertices 8 edges 12"}},
		{cube, "volume", []string{"8"}},
		{cube, "weight 3520", []string{"704/25"}},
		{cube, "group", []string{"4 mirror"}},
		{cube, "plan", []string{"(-1, -1, 0)", "(1, -1, 0)", "(1, 1, 0)", "(-1, 1, 0)"}},
		{cube, "width 3", []string{"2r2"}},
		{cube, "width 0", []string{"2"}},
		{cube, "sheet 96", []string{"96 girdle", "24 girdle", "48 girdle", "72 girdle", "96 0 up", "96 0 down"}},
		{cube, "same " + cube, []string{"yes"}},
		{cube, "same design other order 4 tier g angle 1/0 at 2 depth 7 tier a angle 0/-1 at 0 depth 7 tier b angle 0/1 at 0 depth 7", []string{"yes"}},
		{cube, "same " + gem, []string{"no"}},
		{gem, "group", []string{"8 mirror"}},
		{"design skew order 4 tier b angle 0/-1 at 0 depth 1 tier g angle 1/0 at 0 depth 1 tier c angle 1/1 at 1 depth 1", "group", []string{"4"}},
		{"design empty order 1", "depths", nil},
	} {
		before := space(t, c.text)
		after, answers := Do(before, c.line)
		if !slices.Equal(answers, c.want) || !format.Equal(after.Design, before.Design) || !after.Has {
			t.Errorf("P58.1: %s: %q", c.line, answers)
		}
	}
}

func TestChanges(t *testing.T) { // P58.1, P58.2
	s := space(t, cube)
	s, a := Do(s, `tier c angle 1/1 at 3 depth "2r2-1"`)
	if !slices.Equal(a, []string{"ok"}) || len(s.Design.Tiers) != 4 || !Valid(s) {
		t.Fatalf("P58.1: %v", a)
	}
	_, a = Do(s, "depths")
	if a[3] != "c -1+2r2" {
		t.Errorf("P58.1: %v", a)
	}
	s, a = Do(s, "drop top")
	if !slices.Equal(a, []string{"ok"}) || len(s.Design.Tiers) != 3 || s.Design.Tiers[0].Name != "bottom" {
		t.Errorf("P58.1: %v", a)
	}
	s, a = Do(s, "design x order 2")
	if !slices.Equal(a, []string{"ok"}) || len(s.Design.Tiers) != 0 {
		t.Errorf("P58.1: %v", a)
	}
}

func TestErrors(t *testing.T) { // P58.1, P58.3
	full := "design full order 1"
	for i := range 20 {
		full += " tier t" + string(rune('a'+i)) + " angle 1/" + string(rune('0'+i%10)) + " at " + []string{"1", "2"}[i/10] + " depth 1"
	}
	full = strings.ReplaceAll(full, "angle 1/0", "angle 1/11")
	empty := Space{}
	for i, c := range []struct {
		s    Space
		line string
		e    api.Errno
	}{
		{Space{Design: api.Design{Name: "x"}}, strings.Repeat(" ", 20001), api.ErrArg}, {Space{Has: true}, "show", api.ErrArg}, {empty, strings.Repeat(" ", 20001), api.ErrLimit}, {empty, "", api.ErrSyntax}, {empty, "   ", api.ErrSyntax}, {empty, "\t", api.ErrName}, {empty, "foo bar", api.ErrName}, {empty, "Show", api.ErrName}, {empty, "volume\n", api.ErrName}, {empty, "show x", api.ErrSyntax}, {empty, "volume 1", api.ErrSyntax}, {empty, "weight", api.ErrSyntax}, {empty, "weight 1 2", api.ErrSyntax}, {empty, "design", api.ErrSyntax}, {empty, "tier", api.ErrSyntax}, {empty, "same ", api.ErrSyntax}, {empty, "drop", api.ErrSyntax}, {empty, "drop a b", api.ErrSyntax},
		{empty, "show", api.ErrState}, {empty, "weight x", api.ErrState}, {empty, "tier x", api.ErrState}, {empty, "same x", api.ErrState}, {empty, "drop x", api.ErrState}, {empty, "design x order", api.ErrSyntax}, {empty, "design x order 5", api.ErrRange}, {empty, "design x order 4 tier a angle 2/2 at 0 depth 1", api.ErrAngle}, {empty, `design x order 4 tier a angle 1/2 at 0 depth "1/0"`, api.ErrDiv},
		{space(t, cube), "weight x", api.ErrSyntax}, {space(t, cube), "weight 01", api.ErrSyntax}, {space(t, cube), "weight -1", api.ErrSyntax}, {space(t, cube), "weight +1", api.ErrSyntax}, {space(t, cube), "weight 1000000", api.ErrSyntax}, {space(t, cube), "weight 0", api.ErrRange}, {space(t, cube), "weight 30001", api.ErrRange}, {space(t, cube), "width 24", api.ErrRange}, {space(t, cube), "width 1.5", api.ErrSyntax}, {space(t, cube), "sheet 0", api.ErrRange}, {space(t, cube), "sheet 201", api.ErrRange}, {space(t, cube), "sheet a", api.ErrSyntax},
		{space(t, cube), "drop nothing", api.ErrName}, {space(t, gem), "drop P", api.ErrName}, {space(t, cube), "tier top angle 1/1 at 0 depth 1", api.ErrExist}, {space(t, cube), "tier x angle 1/1 at 0 meet a:0 b:0 c:0", api.ErrName}, {space(t, cube), "tier x", api.ErrSyntax}, {space(t, full), "tier x angle 1/1 at 0 depth 1", api.ErrLimit}, {space(t, cube), "design x", api.ErrSyntax},
		{space(t, "design x order 4"), "volume", api.ErrOpen}, {space(t, "design x order 4"), "weight a", api.ErrSyntax}, {space(t, "design x order 4"), "weight 0", api.ErrOpen}, {space(t, "design x order 4"), "width 99", api.ErrOpen}, {space(t, "design x order 4"), "solid", api.ErrOpen}, {space(t, "design x order 4"), "group", api.ErrOpen}, {space(t, "design x order 4"), "plan", api.ErrOpen},
		{space(t, "design x order 4 tier a angle 1/1 at 0 depth 1 tier b angle 1/2 at 0 meet a:0 a:0 a:0"), "depths", api.ErrParallel}, {space(t, "design x order 4 tier a angle 1/1 at 0 depth 1 tier b angle 1/2 at 0 meet a:0 a:0 a:0"), "same ;", api.ErrParallel}, {space(t, cube), "same ;", api.ErrSyntax}, {space(t, cube), "same design x order 5", api.ErrRange},
	} {
		after, answers := Do(c.s, c.line)
		if !slices.Equal(answers, []string{"error " + api.Name(c.e)}) || after.Has != c.s.Has || !format.Equal(after.Design, c.s.Design) {
			t.Errorf("P58.3: %d: %.30q: %v", i, c.line, answers)
		}
	}
}

func TestSteps(t *testing.T) { // P58.2, P58.3
	lines := []string{"volume", cube, "volume", "tier c angle 1/1 at 3 depth 2", "volume", "solid", "x", "drop c", "volume", "design x", "group", gem, "show", "same " + cube, "same " + gem, "design y order 1", "depths", "solid", "sheet 96"}
	s, all := Space{}, []string{}
	for _, line := range lines {
		next, answers := Do(s, line)
		name := words(line)[0]
		if !Valid(next) || name != "design" && name != "tier" && name != "drop" && !format.Equal(next.Design, s.Design) {
			t.Errorf("P58.3: %s", line)
		}
		if len(answers) == 1 && strings.HasPrefix(answers[0], "error ") && !reflect.DeepEqual(next, s) {
			t.Errorf("P58.3: %s", line)
		}
		s = next
		all = append(all, answers...)
	}
	if got := Run(lines); !slices.Equal(got, all) {
		t.Errorf("P58.2: %q", got)
	}
	if len(Run(nil)) != 0 || !slices.Equal(Run(slices.Repeat([]string{"x"}, 101)), []string{"error limit"}) || len(Run(slices.Repeat([]string{"x"}, 100))) != 100 {
		t.Error("P58.1: Run")
	}
	a := space(t, cube)
	b, _ := Do(a, "volume")
	b.Design.Tiers[0].Name = "other"
	b.Design.Tiers[1].Indices[0] = 7
	if !format.Equal(a.Design, space(t, cube).Design) {
		t.Error("P58.1: shared memory")
	}
}

func TestShow(t *testing.T) { // P58.4, P58.6
	for _, text := range []string{cube, gem, "design x order 24 mirror"} {
		s := space(t, text)
		_, lines := Do(s, "show")
		again, answers := Do(Space{}, strings.Join(lines, " "))
		if !slices.Equal(answers, []string{"ok"}) || !format.Equal(again.Design, s.Design) {
			t.Errorf("P58.4: %v", answers)
		}
		if _, answers := Do(s, "same "+strings.Join(lines, " ")); !slices.Equal(answers, []string{"yes"}) {
			t.Errorf("P58.6: %v", answers)
		}
	}
}

func TestBlanks(t *testing.T) { // P58.5
	for _, line := range []string{cube, "volume", "weight 3520", "width 3", "same " + cube, "drop top", "tier x angle 1/1 at 0 depth 9", "weight", "x y"} {
		wide := "  " + strings.ReplaceAll(line, " ", "   ") + "  "
		a, p := Do(space(t, cube), line)
		b, q := Do(space(t, cube), wide)
		if !slices.Equal(p, q) || !format.Equal(a.Design, b.Design) {
			t.Errorf("P58.5: %s: %v", line, q)
		}
	}
}

func TestStone(t *testing.T) { // W15
	for _, text := range []string{cube, gem} {
		d, _, _ := syntax.Parse(text)
		r, _, _ := resolve.Resolve(d)
		v, _ := measure.Volume(r.Solid)
		w, _ := section.Width(r.Solid, 5)
		answers := Run([]string{text, "volume", "width 5", "weight 1000"})
		volume, _ := format.Value(v)
		width, _ := format.Value(w)
		want := []string{"ok", strings.Trim(volume, `"`), strings.Trim(width, `"`), strings.Trim(volume, `"`)}
		if !slices.Equal(answers, want) {
			t.Errorf("W15: %v, want %v", answers, want)
		}
	}
}

func TestValid(t *testing.T) { // P58.1
	good := space(t, cube)
	bad := Space{Has: true, Design: clone.Design(good.Design)}
	bad.Design.Order = 7
	if !Valid(Space{}) || !Valid(Space{Design: api.Design{Tiers: []api.Tier{}}}) || Valid(Space{Design: good.Design}) || Valid(bad) || Valid(Space{Has: true}) {
		t.Error("P58.1: Valid")
	}
}
