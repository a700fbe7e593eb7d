package lexer

import (
	"math/rand"
	"slices"
	"strings"
	"testing"

	"culet/api"
)

func kinds(l []Token) (out []Token) {
	for _, t := range l {
		out = append(out, Token{Kind: t.Kind, Text: t.Text})
	}
	return out
}

// random returns a text of pieces that often form tokens.
func random(r *rand.Rand) string {
	parts := []string{"tier", "C1", "angle", "a-b_c", "at", "30", "-35", "0", "/", ",", ":", `"r2 # x"`, `""`, " ", "\n", "\t", "# c : \"\n", "x", "-7", "12", "designs", "Z9", " "}
	var b strings.Builder
	for range r.Intn(14) {
		b.WriteString(parts[r.Intn(len(parts))])
	}
	return b.String()
}

func TestExample(t *testing.T) { // P13.1
	l, at, e := Lex("tier C1 angle 30/-35 at 0 # main")
	want := []Token{{Word, "tier", 1, 0}, {Name, "C1", 1, 5}, {Word, "angle", 1, 8}, {Number, "30", 1, 14}, {Symbol, "/", 1, 16}, {Number, "-35", 1, 17}, {Word, "at", 1, 21}, {Number, "0", 1, 24}}
	if !slices.Equal(l, want) || at != 0 || e != api.OK {
		t.Errorf("P13.1: %v %d %v", l, at, e)
	}
	l, _, _ = Lex("a\n\n #x\n\tb:\"c\td\"\n")
	if !slices.Equal(l, []Token{{Name, "a", 1, 0}, {Name, "b", 4, 8}, {Symbol, ":", 4, 9}, {Quoted, "c\td", 4, 10}}) {
		t.Errorf("P13.1: %v", l)
	}
}

func TestDivision(t *testing.T) { // P13.1, P13.3
	for text, want := range map[string]string{
		"": "", "  \t\n": "", "#": "", "# a \" b": "", "a#b": "a", "30x": "30|x", "1-2": "1|-2", "1-a2": "", "a-1": "a-1", "a_": "a_", "x/y,z:0": "x|/|y|,|z|:|0", `""`: "", `"a""b"`: "a|b", "tiers": "tiers", "Tier": "Tier", "-5": "-5", "999999": "999999", "-999999": "-999999",
	} {
		l, _, _ := Lex(text)
		parts := []string{}
		for _, k := range l {
			parts = append(parts, k.Text)
		}
		if got := strings.Join(parts, "|"); got != want {
			t.Errorf("P13.3: %q: %q", text, got)
		}
	}
}

func TestErrors(t *testing.T) { // P13.1, P13.5
	long := strings.Repeat("a", 31)
	for text, want := range map[string]int{
		"é": 0, "a ;": 2, "a\n  .": 4, "-": 0, "a - b": 2, "--1": 0, "-0": 0, "00": 0, "x 007": 2, "1234567": 0, "-1234567": 0, long: 0, "ab " + long + " c": 3, `"`: 0, `a "b`: 2, "\"a\nb\"": 0, "a \"" + strings.Repeat("x", 2001) + "\"": 2, "\r": 0, "_a": 0, "a\x00": 1, "1-a2": 1, "a+b": 1,
	} {
		l, at, e := Lex(text)
		if l != nil || at != want || e != api.ErrSyntax {
			t.Errorf("P13.1: %.20q: %v %d %v", text, l, at, e)
		}
		l, at, e = Lex(text + "\n ; \" 00")
		if l != nil || at != want || e != api.ErrSyntax {
			t.Errorf("P13.5: %.20q: %v %d %v", text, l, at, e)
		}
	}
	if l, _, e := Lex(strings.Repeat("a", 30) + ` "` + strings.Repeat("x", 2000) + `"`); len(l) != 2 || e != api.OK {
		t.Errorf("P13.1: longest tokens: %v", e)
	}
	for _, text := range []string{strings.Repeat(" ", 20001), ";" + strings.Repeat(" ", 20000)} {
		if l, at, e := Lex(text); l != nil || at != 0 || e != api.ErrLimit {
			t.Errorf("P13.1: %v", e)
		}
	}
	if l, _, e := Lex(strings.Repeat(" ", 19999) + "a"); len(l) != 1 || e != api.OK {
		t.Errorf("P13.1: %v", e)
	}
}

func TestCover(t *testing.T) { // P13.2
	r := rand.New(rand.NewSource(1))
	good := 0
	for range 3000 {
		text := random(r)
		l, _, e := Lex(text)
		if e != api.OK {
			continue
		}
		good++
		end := 0
		for _, k := range l {
			between := text[end:k.At]
			if rest, _, e := Lex(between + "\n"); len(rest) > 0 || e != api.OK {
				t.Fatalf("P13.2: %q: %q", text, between)
			}
			if !strings.HasPrefix(text[k.At:], Source(k)) || k.Line != 1+strings.Count(text[:k.At], "\n") {
				t.Fatalf("P13.2: %q: %v", text, k)
			}
			end = k.At + len(Source(k))
			if k.Kind != Quoted && k.Kind != Symbol && end < len(text) && (isDigit(text[end]) || k.Kind != Number && inWord(text[end])) {
				t.Fatalf("P13.3: %q: %v", text, k)
			}
		}
	}
	if good < 300 {
		t.Errorf("only %d texts", good)
	}
}

func TestParts(t *testing.T) { // P13.4
	r := rand.New(rand.NewSource(2))
	for range 2000 {
		a, b := random(r), random(r)
		la, _, ea := Lex(a)
		lb, _, eb := Lex(b)
		l, _, e := Lex(a + "\n" + b)
		if (e == api.OK) != (ea == api.OK && eb == api.OK) {
			t.Fatalf("P13.4: %q %q: %v", a, b, e)
		}
		if e != api.OK {
			continue
		}
		if !slices.Equal(l[:len(la)], la) || !slices.Equal(kinds(l[len(la):]), kinds(lb)) {
			t.Fatalf("P13.4: %q %q", a, b)
		}
		for i, k := range l[len(la):] {
			if k.At != lb[i].At+len(a)+1 {
				t.Fatalf("P13.4: %q %q: offset", a, b)
			}
		}
	}
}

func TestJoin(t *testing.T) { // P13.6
	r := rand.New(rand.NewSource(3))
	for range 3000 {
		l, _, e := Lex(random(r))
		if e != api.OK {
			continue
		}
		text := Join(l)
		again, _, e := Lex(text)
		if e != api.OK || !slices.Equal(kinds(again), kinds(l)) || Join(again) != text {
			t.Fatalf("P13.6: %q", text)
		}
	}
	for _, c := range []struct {
		a, b Token
		want bool
	}{
		{Token{Kind: Name, Text: "a"}, Token{Kind: Name, Text: "b"}, true}, {Token{Kind: Name, Text: "a"}, Token{Kind: Symbol, Text: ":"}, false}, {Token{Kind: Number, Text: "1"}, Token{Kind: Number, Text: "-2"}, false}, {Token{Kind: Number, Text: "1"}, Token{Kind: Name, Text: "a"}, false}, {Token{Kind: Name, Text: "a"}, Token{Kind: Number, Text: "-1"}, true}, {Token{Kind: Number, Text: "1"}, Token{Kind: Number, Text: "2"}, true}, {Token{Kind: Quoted, Text: "x"}, Token{Kind: Quoted, Text: ""}, false}, {Token{Kind: Word, Text: "at"}, Token{Kind: Quoted, Text: ""}, false},
		{Token{Kind: Name, Text: "at"}, Token{Kind: Symbol, Text: ":"}, true}, {Token{Kind: Word, Text: "x"}, Token{Kind: Symbol, Text: ":"}, true}, {Token{}, Token{}, true}, {Token{Kind: Symbol, Text: ""}, Token{Kind: Name, Text: "a"}, true}, {Token{Kind: 9, Text: ":"}, Token{Kind: Name, Text: "a"}, true}, {Token{Kind: Quoted, Text: `"`}, Token{Kind: Name, Text: "a"}, true}, {Token{Kind: Quoted, Text: "\n"}, Token{Kind: Name, Text: "a"}, true},
	} {
		if Apart(c.a, c.b) != c.want {
			t.Errorf("P13.6: %v %v", c.a, c.b)
		}
	}
	if Join(nil) != "" || Source(Token{Kind: Quoted, Text: "a"}) != `"a"` || Source(Token{Kind: Number, Text: "a"}) != "a" {
		t.Error("P13.6: Join, Source")
	}
}

func TestWords(t *testing.T) { // P13.1
	for _, s := range strings.Fields("design order mirror tier angle at depth meet edge height through") {
		if !Reserved(s) || IsName(s) {
			t.Errorf("P13.1: %s", s)
		}
	}
	for _, s := range []string{"", "Design", "tiers", "x"} {
		if Reserved(s) {
			t.Errorf("P13.1: %s", s)
		}
	}
	for _, s := range []string{"a", "Z", "A", "z", "a-", "a_9", "r2", "b0", "aA", strings.Repeat("b", 30)} {
		if !IsName(s) {
			t.Errorf("P13.1: %s", s)
		}
	}
	for _, s := range []string{"", "1a", "-a", "_", "a b", "é", "aé", "a.", strings.Repeat("b", 31)} {
		if IsName(s) {
			t.Errorf("P13.1: %s", s)
		}
	}
	for s, want := range map[string]int{"0": 0, "7": 7, "-1": -1, "999999": 999999, "-999999": -999999, "10": 10} {
		if n, ok := Value(s); n != want || !ok {
			t.Errorf("P13.1: %s: %d", s, n)
		}
	}
	for _, s := range []string{"", "-", "-0", "00", "01", "+1", "1000000", "-1000000", " 1", "1 ", "1.0", "x", "١"} {
		if n, ok := Value(s); n != 0 || ok {
			t.Errorf("P13.1: %q: %d", s, n)
		}
	}
}
