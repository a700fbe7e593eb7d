package syntax

import (
	"reflect"
	"strings"
	"testing"

	"culet/api"
	"culet/field"
	"culet/lexer"
)

const example = `design square order 4
tier C1 angle 1/1 at 0 depth "3/2"
tier T angle 0/1 at 0 meet C1:0 C1:6 C1:12
`

const all = `design all order 24 mirror # a comment
tier a angle -3/-4 at 0,-5 , 23 depth -7
tier b angle 1/0 at 1 meet a:0 a:-1 z:99
tier c angle 999999/2 at 2 edge a:0 b:1 height "r2-1/2"
tier d angle 0/1 at 0 through 1 "1.5r6" -2
`

func num(s string) api.Num {
	x, _ := field.Parse(s)
	return x
}

func TestDesigns(t *testing.T) { // P14.1
	d, at, e := Parse(all)
	want := api.Design{Name: "all", Order: 24, Mirror: true, Tiers: []api.Tier{
		{Name: "a", H: -3, V: -4, Indices: []int{0, -5, 23}, Fix: api.Fix{Kind: api.FixDepth, Depth: num("-7")}},
		{Name: "b", H: 1, V: 0, Indices: []int{1}, Fix: api.Fix{Kind: api.FixMeet, Refs: []api.Ref{{Tier: "a", Index: 0}, {Tier: "a", Index: -1}, {Tier: "z", Index: 99}}}},
		{Name: "c", H: 999999, V: 2, Indices: []int{2}, Fix: api.Fix{Kind: api.FixLevel, Depth: num("r2-1/2"), Refs: []api.Ref{{Tier: "a", Index: 0}, {Tier: "b", Index: 1}}}},
		{Name: "d", H: 0, V: 1, Indices: []int{0}, Fix: api.Fix{Kind: api.FixPoint, Point: api.Vec{X: num("1"), Y: num("3/2r6"), Z: num("-2")}}},
	}}
	if !reflect.DeepEqual(d, want) || at != 0 || e != api.OK {
		t.Errorf("P14.1: %v %d %v", d, at, e)
	}
	d, _, e = Parse(example)
	if e != api.OK || len(d.Tiers) != 2 || len(d.Tiers[1].Fix.Refs) != 3 || d.Tiers[0].Fix.Depth != num("3/2") || d.Mirror {
		t.Errorf("P14.1: %v %v", d, e)
	}
	if d, _, e := Parse("design x order -3"); e != api.OK || d.Order != -3 || len(d.Tiers) != 0 {
		t.Errorf("P14.1: %v", e)
	}
}

// tokens returns the tokens of a text.
func tokens(text string) []lexer.Token {
	l, _, _ := lexer.Lex(text)
	return l
}

func TestErrors(t *testing.T) { // P14.1
	for _, c := range []struct {
		text string
		at   int
		e    api.Errno
	}{
		{"", 0, api.ErrSyntax}, {"  ", 2, api.ErrSyntax}, {"design", 6, api.ErrSyntax}, {"design x", 8, api.ErrSyntax}, {"design order 4", 7, api.ErrSyntax}, {"design x order y", 15, api.ErrSyntax}, {"design x order 4 5", 17, api.ErrSyntax}, {"design x order 4 mirror mirror", 24, api.ErrSyntax}, {"x design", 0, api.ErrSyntax}, {"design x order 4 # c", 0, api.OK},
		{"design x ; order", 9, api.ErrSyntax}, {"; design", 0, api.ErrSyntax}, {"y ;", 2, api.ErrSyntax}, {strings.Repeat(" ", 20001), 0, api.ErrLimit},
		{"design x order 4 tier", 21, api.ErrSyntax}, {"design x order 4 tier t angle 1 at", 32, api.ErrSyntax}, {"design x order 4 tier t angle 1/2 at 0, depth 1", 40, api.ErrSyntax}, {"design x order 4 tier t angle 1/2 at 0 dept 1", 39, api.ErrSyntax}, {"design x order 4 tier t angle 1/2 at 0 depth", 44, api.ErrSyntax}, {"design x order 4 tier t angle 1/2 at 0 depth r2", 45, api.ErrSyntax},
		{`design x order 4 tier t angle 1/2 at 0 depth "r"`, 45, api.ErrSyntax}, {`design x order 4 tier t angle 1/2 at 0 depth "1/0" tier`, 45, api.ErrDiv}, {`design x order 4 tier t angle 1/2 at 0 depth "` + strings.Repeat("1", 401) + `"`, 45, api.ErrLimit},
		{"design x order 4 tier t angle 1/2 at 0 meet a:0 a:1", 51, api.ErrSyntax}, {"design x order 4 tier t angle 1/2 at 0 meet a:0 a:1 a:b", 54, api.ErrSyntax}, {"design x order 4 tier t angle 1/2 at 0 meet a 0", 46, api.ErrSyntax}, {"design x order 4 tier t angle 1/2 at 0 edge a:0 a:1 depth 1", 52, api.ErrSyntax}, {"design x order 4 tier t angle 1/2 at 0 through 1 2", 50, api.ErrSyntax}, {"design x order 4 tier t angle 1/2 at 0 at 1", 39, api.ErrSyntax}, {`design x order 4 tier t angle 1/2 at 0 "depth" 1`, 39, api.ErrSyntax},
	} {
		d, at, e := Parse(c.text)
		if at != c.at || e != c.e || e != api.OK && !reflect.DeepEqual(d, api.Design{}) {
			t.Errorf("P14.1: %.60q: %d %v", c.text, at, e)
		}
	}
}

func TestBlanks(t *testing.T) { // P14.2
	for _, text := range []string{example, all, "design x order 1"} {
		want, _, _ := Parse(text)
		joined := lexer.Join(tokens(text))
		for _, other := range []string{joined, strings.ReplaceAll(joined, " ", "\t\n # x\n"), strings.ReplaceAll(strings.ReplaceAll(text, ":", " : "), ",", " , ")} {
			if d, _, e := Parse(other); e != api.OK || !reflect.DeepEqual(d, want) {
				t.Errorf("P14.2: %q: %v", other, e)
			}
		}
	}
}

func TestParts(t *testing.T) { // P14.3, P14.5
	text := "design x order 4"
	indices := "0" + strings.Repeat(", 1", 23)
	for i := range api.MaxTiers {
		tier := "tier t angle 1/2 at " + indices + " depth " + string(rune('0'+i%10))
		d, _, _ := Parse(text)
		longer, _, e := Parse(text + "\n" + tier)
		one, _, _ := Parse("design y order 1 " + tier)
		if e != api.OK || !reflect.DeepEqual(longer.Tiers, append(d.Tiers, one.Tiers[0])) || len(one.Tiers[0].Indices) != 24 {
			t.Fatalf("P14.3: %d: %v", i, e)
		}
		text += "\n" + tier
	}
	if d, at, e := Parse(text + " tier"); at != len(text)+1 || e != api.ErrLimit || len(d.Tiers) > 0 {
		t.Errorf("P14.5: %d %v", at, e)
	}
	many := "design x order 4 tier t angle 1/2 at " + indices
	if _, at, e := Parse(many + ", 7 ;"); at != len(many)+4 || e != api.ErrSyntax {
		t.Errorf("P14.5: %d %v", at, e)
	}
	if _, at, e := Parse(many + ", 7 x"); at != len(many)+2 || e != api.ErrLimit {
		t.Errorf("P14.5: %d %v", at, e)
	}
	if _, at, e := Parse(many + ", x"); at != len(many)+2 || e != api.ErrSyntax {
		t.Errorf("P14.5: %d %v", at, e)
	}
}

func TestPrefix(t *testing.T) { // P14.4
	l := tokens(all)
	for i, k := range l {
		bad := all[:k.At] + " order"
		if i == 2 || k.Text == "order" {
			continue
		}
		_, at, e := Parse(bad)
		if e != api.ErrSyntax || at != k.At+1 {
			t.Errorf("P14.4: %d: %d %v", i, at, e)
		}
		for _, rest := range []string{" tier x", " 1/2 : , \"1/0\"", " design y order 4"} {
			if _, at2, e2 := Parse(bad + rest); at2 != at || e2 != e {
				t.Errorf("P14.4: %d: %d %v", i, at2, e2)
			}
		}
		cut := all[:k.At]
		if k.Text == "tier" || k.Text == "mirror" || k.Text == "," {
			continue
		}
		if _, at, e := Parse(cut); i > 0 && (at != len(cut) || e != api.ErrSyntax) {
			t.Errorf("P14.4: %d: %d %v", i, at, e)
		}
	}
}

func TestFixes(t *testing.T) { // P14.1
	for text, want := range map[string]api.Fix{
		"depth 5":                       {Kind: api.FixDepth, Depth: num("5")},
		"meet a:1 b:2 c:3":              {Kind: api.FixMeet, Refs: []api.Ref{{Tier: "a", Index: 1}, {Tier: "b", Index: 2}, {Tier: "c", Index: 3}}},
		`edge a:1 b:2 height "-r3"`:     {Kind: api.FixLevel, Depth: num("-r3"), Refs: []api.Ref{{Tier: "a", Index: 1}, {Tier: "b", Index: 2}}},
		`through "1/2" "0" 3 # comment`: {Kind: api.FixPoint, Point: api.Vec{X: num("1/2"), Y: num("0"), Z: num("3")}},
	} {
		if f, at, e := Fix(text); !reflect.DeepEqual(f, want) || at != 0 || e != api.OK {
			t.Errorf("P14.1: %s: %v %d %v", text, f, at, e)
		}
	}
	for text, want := range map[string]int{"": 0, "depth": 5, "depth 5 6": 8, "tier": 0, "meet a:1 b:2 c:3 d:4": 17, "depth 1 ;": 8} {
		if f, at, e := Fix(text); !reflect.DeepEqual(f, api.Fix{}) || at != want || e != api.ErrSyntax {
			t.Errorf("P14.1: %q: %d %v", text, at, e)
		}
	}
	for text, want := range map[string]string{"5": "5", "-7": "-7", ` "1.5" `: "3/2", `"r2+1/3"#`: "1/3+r2"} {
		if x, e := Value(text); x != num(want) || e != api.OK {
			t.Errorf("P14.1: %s: %v", text, e)
		}
	}
	for text, want := range map[string]api.Errno{"": api.ErrSyntax, "x": api.ErrSyntax, "1 2": api.ErrSyntax, `"x"`: api.ErrSyntax, `"1/0"`: api.ErrDiv, "r2": api.ErrSyntax, `"` + strings.Repeat("1", 401) + `"`: api.ErrLimit, ";": api.ErrSyntax, strings.Repeat(" ", 20001): api.ErrLimit, "1234567": api.ErrSyntax} {
		if x, e := Value(text); x != (api.Num{}) || e != want {
			t.Errorf("P14.1: %.9q: %v", text, e)
		}
	}
}
