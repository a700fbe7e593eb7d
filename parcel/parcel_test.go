package parcel

import (
	"math/rand"
	"slices"
	"strconv"
	"strings"
	"testing"

	"culet/api"
	"culet/tariff"
)

func piece(id, material string, weight, count int) api.Piece {
	return api.Piece{ID: id, Material: material, Weight: weight, Count: count}
}

func parcel() []api.Piece {
	return []api.Piece{piece("Z", "ruby", 5, 5), piece("a", "ruby", 500, 2), piece("b", "opal", 1000000, 1000), piece("c", "ruby", 1000000, 1), piece("d", "ruby", 999500, 999)}
}

func random(r *rand.Rand) Entry {
	id := func() string { return string(rune('a' + r.Intn(5))) }
	n := func() int { return 1 + r.Intn(300) }
	switch r.Intn(6) {
	case 0, 1:
		return Entry{Kind: In, Piece: piece(id(), []string{"ruby", "opal"}[r.Intn(2)], 10*n(), 1+n()/20)}
	case 2:
		return Entry{Kind: Out, ID: id()}
	case 3:
		return Entry{Kind: Split, ID: id(), To: id(), Weight: n(), Count: 1 + r.Intn(5)}
	case 4:
		return Entry{Kind: Join, ID: id(), To: id()}
	}
	return Entry{Kind: Loss, ID: id(), Weight: n()}
}

// books returns books whose entries are possible.
func books() (l [][]Entry) {
	r := rand.New(rand.NewSource(1))
	for range 30 {
		book, now := []Entry{}, []api.Piece{}
		for range 60 {
			x := random(r)
			if next, e := Do(now, x); e == api.OK {
				book, now = append(book, x), next
			}
		}
		l = append(l, book)
	}
	return l
}

func TestBooks(t *testing.T) { // P53.2, P53.3, P53.4, P53.6
	kinds := map[int]int{}
	for i, book := range books() {
		now := []api.Piece{}
		for k, x := range book {
			l, at, e := Of(book[:k])
			if e != api.OK || at != k || !slices.Equal(l, now) || !Valid(l) {
				t.Fatalf("P53.6: %d %d: %v", i, k, e)
			}
			next, e := Do(now, x)
			kinds[x.Kind]++
			for _, m := range []string{"ruby", "opal"} {
				w, c := Weigh(now, m)
				v, d := Weigh(next, m)
				if (x.Kind == Split || x.Kind == Join) && (w != v || c != d) || x.Kind == Loss && (c != d || v > w) {
					t.Fatalf("P53.4: %d %d: %v", i, k, x)
				}
			}
			if e != api.OK || !Valid(next) {
				t.Fatalf("P53.2: %d %d: %v", i, k, e)
			}
			if x.Kind == Split {
				back, e := Do(next, Entry{Kind: Join, ID: x.To, To: x.ID})
				if e != api.OK || !slices.Equal(back, now) {
					t.Fatalf("P53.5: %d %d: %v", i, k, e)
				}
			}
			now = next
		}
		for _, m := range []string{"ruby", "opal", "none", ""} {
			b, e := Audit(book, m)
			w, _ := Weigh(now, m)
			if e != api.OK || b.In != b.Out+b.Lost+b.There || b.There != w {
				t.Fatalf("P53.3: %d: %v", i, b)
			}
			if in := plainIn(book, m); b.In != in {
				t.Fatalf("P53.3: %d: %d came in", i, in)
			}
		}
		bad := append(slices.Clone(book[:len(book)/2]), Entry{Kind: Out, ID: "none"})
		l, at, e := Of(append(bad, book...))
		_, e2 := Audit(bad, "ruby")
		_, e3 := Trace(bad, "a")
		if l != nil || at != len(book)/2 || e != api.ErrNone || e2 != e || e3 != e {
			t.Fatalf("P53.6: %d: %d %v", i, at, e)
		}
	}
	if len(kinds) != 5 {
		t.Errorf("one-sided test: %v", kinds)
	}
}

func plainIn(book []Entry, m string) (n int) {
	for _, x := range book {
		if x.Kind == In && x.Piece.Material == m {
			n += x.Piece.Weight
		}
	}
	return n
}

func TestExample(t *testing.T) { // P53.1
	book := []Entry{{Kind: In, Piece: piece("a", "ruby", 500, 2)}, {Kind: Split, ID: "a", To: "b", Weight: 200, Count: 1}, {Kind: Loss, ID: "a", Weight: 100}}
	l, _, _ := Of(book)
	b, e := Audit(book, "ruby")
	if !slices.Equal(l, []api.Piece{piece("a", "ruby", 200, 1), piece("b", "ruby", 200, 1)}) || b != (Balance{500, 0, 100, 400}) || e != api.OK {
		t.Errorf("P53.3: %v %v", l, b)
	}
	left := append(slices.Clone(book), Entry{Kind: Out, ID: "a"})
	if b, _ := Audit(left, "ruby"); b != (Balance{500, 200, 100, 200}) {
		t.Errorf("P53.3: %v", b)
	}
	for id, want := range map[string][]int{"a": {0, 1, 2, 3}, "b": {1}, "ruby": nil, "": nil} {
		if l, e := Trace(left, id); !slices.Equal(l, want) || e != api.OK {
			t.Errorf("P53.1: Trace %q: %v", id, l)
		}
	}
}

func TestDo(t *testing.T) { // P53.1
	full := []api.Piece{}
	for i := range 100 {
		full = append(full, piece("p"+strconv.Itoa(100+i), "ruby", 10, 2))
	}
	good := piece("n", "jade", 1, 1)
	for i, c := range []struct {
		l []api.Piece
		x Entry
		e api.Errno
	}{
		{parcel(), Entry{}, api.ErrArg}, {parcel(), Entry{Kind: 6, ID: "a"}, api.ErrArg}, {parcel()[1:], Entry{Kind: Out, ID: "Z"}, api.ErrNone}, {[]api.Piece{good, good}, Entry{Kind: Out, ID: "n"}, api.ErrArg},
		{parcel(), Entry{Kind: In, Piece: good}, api.OK}, {parcel(), Entry{Kind: In, Piece: good, ID: "x"}, api.ErrArg}, {parcel(), Entry{Kind: In, Piece: good, Weight: 1}, api.ErrArg}, {parcel(), Entry{Kind: In, Piece: piece("a", "at", 1, 1)}, api.ErrArg}, {parcel(), Entry{Kind: In, Piece: piece("a", "ruby", 1, 1)}, api.ErrExist}, {full, Entry{Kind: In, Piece: piece("p100", "ruby", 1, 1)}, api.ErrExist}, {full, Entry{Kind: In, Piece: good}, api.ErrLimit}, {full[1:], Entry{Kind: In, Piece: good}, api.OK}, {parcel(), Entry{Kind: In, Piece: piece("n", "m", 0, 1)}, api.ErrArg}, {parcel(), Entry{Kind: In, Piece: piece("n", "m", 1000001, 1)}, api.ErrArg}, {parcel(), Entry{Kind: In, Piece: piece("n", "m", 1, 0)}, api.ErrArg}, {parcel(), Entry{Kind: In, Piece: piece("n", "m", 1, 1001)}, api.ErrArg},
		{parcel(), Entry{Kind: Out, ID: "a"}, api.OK}, {parcel(), Entry{Kind: Out, ID: "a", To: "b"}, api.ErrArg}, {parcel(), Entry{Kind: Out, ID: "a", Count: 1}, api.ErrArg}, {parcel(), Entry{Kind: Out}, api.ErrNone}, {parcel(), Entry{Kind: Out, ID: "A"}, api.ErrNone}, {parcel(), Entry{Kind: Out, ID: "a", Piece: good}, api.ErrArg},
		{parcel(), Entry{Kind: Split, ID: "a", To: "n", Weight: 499, Count: 1}, api.OK}, {parcel(), Entry{Kind: Split, ID: "a", To: "at", Weight: 1, Count: 1}, api.ErrArg}, {parcel(), Entry{Kind: Split, ID: "x", To: "a", Weight: 0, Count: 1}, api.ErrNone}, {parcel(), Entry{Kind: Split, ID: "a", To: "a", Weight: 0, Count: 1}, api.ErrExist}, {parcel(), Entry{Kind: Split, ID: "a", To: "b", Weight: 0, Count: 1}, api.ErrExist}, {parcel(), Entry{Kind: Split, ID: "a", To: "n", Weight: 0, Count: 1}, api.ErrRange}, {parcel(), Entry{Kind: Split, ID: "a", To: "n", Weight: 500, Count: 1}, api.ErrRange}, {parcel(), Entry{Kind: Split, ID: "a", To: "n", Weight: 1, Count: 0}, api.ErrRange}, {parcel(), Entry{Kind: Split, ID: "a", To: "n", Weight: 1, Count: 2}, api.ErrRange}, {full, Entry{Kind: Split, ID: "p100", To: "n", Weight: 1, Count: 1}, api.ErrLimit}, {full, Entry{Kind: Split, ID: "p100", To: "n", Weight: 10, Count: 1}, api.ErrRange}, {parcel(), Entry{Kind: Split, ID: "a", To: "n", Weight: 1, Count: 1, Piece: good}, api.ErrArg},
		{parcel(), Entry{Kind: Join, ID: "d", To: "a"}, api.ErrRange}, {parcel(), Entry{Kind: Join, ID: "a", To: "Z"}, api.OK}, {parcel(), Entry{Kind: Join, ID: "x", To: "y"}, api.ErrNone}, {parcel(), Entry{Kind: Join, ID: "a", To: "y"}, api.ErrNone}, {parcel(), Entry{Kind: Join, ID: "a", To: "at"}, api.ErrArg}, {parcel(), Entry{Kind: Join, ID: "a", To: "a"}, api.ErrState}, {parcel(), Entry{Kind: Join, ID: "a", To: "b"}, api.ErrState}, {parcel(), Entry{Kind: Join, ID: "a", To: "c"}, api.ErrRange}, {parcel(), Entry{Kind: Join, ID: "a", To: "Z", Weight: 1}, api.ErrArg},
		{parcel(), Entry{Kind: Loss, ID: "a", Weight: 499}, api.OK}, {parcel(), Entry{Kind: Loss, ID: "x", Weight: 0}, api.ErrNone}, {parcel(), Entry{Kind: Loss, ID: "a", Weight: 0}, api.ErrRange}, {parcel(), Entry{Kind: Loss, ID: "a", Weight: 500}, api.ErrRange}, {parcel(), Entry{Kind: Loss, ID: "a", Weight: -1}, api.ErrRange}, {parcel(), Entry{Kind: Loss, ID: "a", Weight: 1, Count: 1}, api.ErrArg},
	} {
		before := slices.Clone(c.l)
		l, e := Do(c.l, c.x)
		if e != c.e || e != api.OK && l != nil || e == api.OK && !Valid(l) || !slices.Equal(c.l, before) {
			t.Errorf("P53.1: %d: %v", i, e)
		}
	}
	l, _ := Do(parcel(), Entry{Kind: Split, ID: "a", To: "n", Weight: 100, Count: 1})
	a, _ := Find(l, "a")
	n, _ := Find(l, "n")
	if a != piece("a", "ruby", 400, 1) || n != piece("n", "ruby", 100, 1) {
		t.Errorf("P53.1: %v %v", a, n)
	}
	most := []api.Piece{piece("a", "ruby", 999999, 999), piece("b", "ruby", 1, 1)}
	if l, e := Do(most, Entry{Kind: Join, ID: "a", To: "b"}); e != api.OK || !slices.Equal(l, []api.Piece{piece("b", "ruby", 1000000, 1000)}) {
		t.Errorf("P53.1: %v %v", l, e)
	}
	l, _ = Do(parcel(), Entry{Kind: Join, ID: "a", To: "Z"})
	z, _ := Find(l, "Z")
	if _, found := Find(l, "a"); z != piece("Z", "ruby", 505, 7) || found {
		t.Errorf("P53.1: %v", z)
	}
}

func TestLists(t *testing.T) { // P53.1
	if !Valid(nil) || !Valid(parcel()) || Valid([]api.Piece{parcel()[1], parcel()[0]}) || Valid([]api.Piece{piece(strings.Repeat("a", 31), "m", 1, 1)}) {
		t.Error("P53.1: Valid")
	}
	many := slices.Repeat([]Entry{{}}, 201)
	l, at, e := Of(many)
	_, e2 := Audit(many, "ruby")
	_, e3 := Trace(many, "a")
	if l != nil || at != 0 || e != api.ErrLimit || e2 != e || e3 != e {
		t.Errorf("P53.1: %d %v", at, e)
	}
	if l, at, e := Of(nil); len(l) != 0 || at != 0 || e != api.OK {
		t.Errorf("P53.1: %v", e)
	}
	anyList := []api.Piece{piece("b", "m", 7, 2), piece("b", "m", 5, 1), piece("", "m", 100, 1), piece("a", "m", 0, 1), piece("a", "n", 9, 9)}
	if p, ok := Find(anyList, "b"); p.Weight != 7 || !ok {
		t.Error("P53.1: Find")
	}
	if p, ok := Find(anyList, "x"); p != (api.Piece{}) || ok {
		t.Error("P53.1: Find")
	}
	if w, c := Weigh(anyList, "m"); w != 12 || c != 3 {
		t.Errorf("P53.1: Weigh: %d %d", w, c)
	}
}

func TestValue(t *testing.T) { // P53.1
	x := tariff.Tariff{Material: "ruby", Classes: []tariff.Class{{From: 0, Price: 1000}, {From: 250, Price: 3000}}}
	if v, e := Value(parcel()[:3], x); v != 5*1+2*750 || e != api.OK {
		t.Errorf("P53.1: %d %v", v, e)
	}
	if v, e := Value([]api.Piece{piece("a", "ruby", 7, 2)}, x); v != 6 || e != api.OK {
		t.Errorf("P53.1: whole part: %d", v)
	}
	_, e1 := Value([]api.Piece{{}}, x)
	_, e2 := Value(nil, tariff.Tariff{})
	v, e3 := Value(nil, x)
	if e1 != api.ErrArg || e2 != api.ErrArg || e3 != api.OK || v != 0 {
		t.Errorf("P53.1: %v %v %v", e1, e2, e3)
	}
}
