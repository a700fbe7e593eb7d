package library

import (
	"slices"
	"strconv"
	"strings"
	"testing"

	"culet/api"
	"culet/clone"
	"culet/field"
	"culet/format"
	"culet/syntax"
)

func num(s string) api.Num {
	x, _ := field.Parse(s)
	return x
}

func parse(t *testing.T, text string) api.Design {
	t.Helper()
	d, at, e := syntax.Parse(text)
	if e != api.OK {
		t.Fatal(text, at, e)
	}
	return d
}

func pyramid(name, depth string) string {
	return "design " + name + " order 4 tier B angle 0/-1 at 0 depth 0 tier C angle 1/1 at 0 depth " + depth
}

// shelf has four designs, one of them with two versions, and one whose depths cannot be found.
func shelf(t *testing.T) []Entry {
	t.Helper()
	l := []Entry{}
	for _, text := range []string{pyramid("m", "1"), pyramid("b", "2"), "design z order 5", pyramid("B", "1"), pyramid("m", "3")} {
		var e api.Errno
		if l, e = Put(l, parse(t, text), "put "+text[7:8]); e != api.OK {
			t.Fatal(e)
		}
	}
	for _, tag := range []string{"round", "a", "old"} {
		l, _ = Tag(l, "m", tag)
	}
	l, e := Tag(l, "b", "old")
	if e != api.OK || Check(l) != api.OK {
		t.Fatal(e)
	}
	return l
}

func TestSum(t *testing.T) { // P25.1
	if Sum("") != 1 || Sum("\x00") != 258 || Sum("ab") != ((257+97+1)*257+98+1)%2147483647 || Sum(strings.Repeat("\xff", 1000)) >= 2147483647 || Sum("ab") == Sum("ba") {
		t.Error("P25.1: Sum")
	}
}

func TestPut(t *testing.T) { // P25.2
	l := shelf(t)
	names := []string{}
	for _, x := range l {
		names = append(names, x.Design.Name)
	}
	if !slices.Equal(names, []string{"B", "b", "m", "z"}) {
		t.Fatalf("P25.2: %v", names)
	}
	for _, text := range []string{pyramid("a", "7"), pyramid("m", "7"), pyramid("zz", "1"), "design z order 6 mirror"} {
		d := parse(t, text)
		i, had := Find(l, d.Name)
		out, e := Put(l, d, "comment")
		k, found := Find(out, d.Name)
		if e != api.OK || !found || Check(out) != api.OK || !format.Equal(out[k].Design, d) {
			t.Fatalf("P25.2: %s: %v", d.Name, e)
		}
		log := out[k].Log
		s, _ := format.Print(d)
		if want := (api.Version{Number: len(log), Comment: "comment", Sum: Sum(s)}); log[len(log)-1] != want {
			t.Errorf("P25.2: %s: %v", d.Name, log)
		}
		if had && (len(log) != len(l[i].Log)+1 || !slices.Equal(out[k].Tags, l[i].Tags)) || !had && (len(log) != 1 || len(out[k].Tags) != 0) {
			t.Errorf("P25.2: %s: %v", d.Name, out[k])
		}
		if again, e := Put(out, d, "other"); e != api.ErrState || again != nil {
			t.Errorf("P25.2: %s: %v", d.Name, e)
		}
		rest, e := Drop(out, d.Name)
		before, _ := Drop(l, d.Name)
		if !had {
			before = l
		}
		if e != api.OK || !Equal(rest, before) {
			t.Errorf("P25.4: %s", d.Name)
		}
		out[k].Log[0].Comment = "changed"
		out[k].Design.Name = "changed"
		if !Equal(l, shelf(t)) {
			t.Errorf("P25.1: %s: shared memory", d.Name)
		}
	}
}

func TestTags(t *testing.T) { // P25.3
	l := shelf(t)
	if names, e := Search(l, "old"); e != api.OK || !slices.Equal(names, []string{"b", "m"}) {
		t.Errorf("P25.3: %v", names)
	}
	for _, tag := range []string{"zzz", "A", "p-1"} {
		out, e := Tag(l, "m", tag)
		names, _ := Search(out, tag)
		back, e2 := Untag(out, "m", tag)
		if e != api.OK || e2 != api.OK || !slices.Equal(names, []string{"m"}) || !Equal(back, l) || Check(out) != api.OK {
			t.Errorf("P25.3: %s: %v %v", tag, e, e2)
		}
	}
	if names, e := Search(l, "1"); e != api.OK || len(names) != 0 {
		t.Errorf("P25.3: %v", e)
	}
}

func TestRelatives(t *testing.T) { // P25.5
	l := shelf(t)
	for _, x := range l[:3] {
		double := clone.Design(x.Design)
		double.Name = "other"
		for i := range double.Tiers {
			double.Tiers[i].Fix.Depth = field.Mul(double.Tiers[i].Fix.Depth, num("2"))
		}
		a, e1 := Relatives(l, x.Design)
		b, e2 := Relatives(l, double)
		if e1 != api.OK || e2 != api.OK || !slices.Equal(a, []string{"B", "b", "m"}) || !slices.Equal(b, a) {
			t.Errorf("P25.5: %v %v %v %v", a, b, e1, e2)
		}
	}
	if names, e := Relatives(l, parse(t, "design q order 4 tier B angle 0/-1 at 0 depth 1 tier C angle 1/1 at 0 depth 1")); e != api.OK || len(names) != 0 {
		t.Errorf("P25.5: %v %v", names, e)
	}
	if names, e := Relatives(l, l[3].Design); e != api.ErrRange || names != nil {
		t.Errorf("P25.5: %v %v", names, e)
	}
}

func TestFaults(t *testing.T) { // P25.1
	long := strings.Repeat("x", 201)
	for i, c := range []struct {
		change func(l []Entry)
		e      api.Errno
	}{
		{func(l []Entry) { l[1].Design.Name = "tier"; l[0].Log = nil }, api.ErrSum},
		{func(l []Entry) { l[0].Design.Name = "tier"; l[0].Log = nil }, api.ErrArg},
		{func(l []Entry) {
			l[0].Design.Tiers[0].Fix.Depth = num(strings.Repeat("9", 60) + "r2")
			l[0].Log[0].Sum = 0
		}, api.ErrSum},
		{func(l []Entry) {
			x := num(strings.Repeat("9", 60))
			l[0].Design.Tiers[0].Fix.Depth = field.Mul(x, x)
		}, api.ErrArg},
		{func(l []Entry) { l[2].Tags[1] = "1"; l[2].Tags = slices.Repeat(l[2].Tags, 9) }, api.ErrArg},
		{func(l []Entry) { l[2].Log[0].Comment = long }, api.ErrArg},
		{func(l []Entry) { l[2].Log[0].Comment = "a\nb"; l[2].Log[0].Number = 7 }, api.ErrArg},
		{func(l []Entry) { l[2].Tags = slices.Repeat(l[2].Tags, 9) }, api.ErrLimit},
		{func(l []Entry) { l[2].Log = slices.Repeat(l[2].Log, 51) }, api.ErrLimit},
		{func(l []Entry) { l[2].Tags[0], l[2].Tags[1] = l[2].Tags[1], l[2].Tags[0] }, api.ErrOrder},
		{func(l []Entry) { l[2].Tags[0] = l[2].Tags[1] }, api.ErrOrder},
		{func(l []Entry) { l[2].Log[0].Number = 2 }, api.ErrOrder},
		{func(l []Entry) { l[2].Log[1].Number = 3; l[2].Log[1].Sum++ }, api.ErrOrder},
		{func(l []Entry) { l[2].Log[1].Sum++ }, api.ErrSum},
		{func(l []Entry) { l[2].Log[0].Sum++ }, api.OK},
		{func(l []Entry) { l[2].Design.Order = 8 }, api.ErrSum},
		{func(l []Entry) { l[0], l[1] = l[1], l[0] }, api.ErrOrder},
		{func(l []Entry) { l[0] = l[1] }, api.ErrOrder},
		{func(l []Entry) { l[0], l[1] = l[1], l[0]; l[3].Log = nil }, api.ErrSum},
	} {
		l := shelf(t)
		c.change(l)
		if e := Check(l); e != c.e {
			t.Errorf("P25.1: %d: %v", i, e)
		}
		if c.e == api.OK {
			continue
		}
		d := parse(t, pyramid("new", "1"))
		o1, e1 := Put(l, d, "")
		o2, e2 := Drop(l, "none")
		o3, e3 := Tag(l, "none", "x")
		o4, e4 := Untag(l, "none", "x")
		o5, e5 := Search(l, "x")
		o6, e6 := Relatives(l, api.Design{})
		for k, e := range []api.Errno{e1, e2, e3, e4, e5, e6} {
			if e != api.ErrArg {
				t.Errorf("P25.1: %d %d: %v", i, k, e)
			}
		}
		if o1 != nil || o2 != nil || o3 != nil || o4 != nil || o5 != nil || o6 != nil {
			t.Errorf("P25.1: %d: results", i)
		}
	}
	if Check(nil) != api.OK {
		t.Error("P25.1: empty library")
	}
}

func TestErrors(t *testing.T) { // P25.1
	l := shelf(t)
	d := parse(t, pyramid("new", "1"))
	bad := clone.Design(d)
	bad.Name = "at"
	huge := clone.Design(d)
	x := num(strings.Repeat("9", 60))
	huge.Tiers[0].Fix.Depth = field.Mul(x, x)
	for i, c := range []struct {
		d       api.Design
		comment string
		e       api.Errno
	}{{bad, "", api.ErrArg}, {d, "a\n", api.ErrArg}, {d, strings.Repeat("x", 201), api.ErrArg}, {huge, strings.Repeat("x", 201), api.ErrArg}, {huge, "", api.ErrLimit}, {d, strings.Repeat("x", 200), api.OK}} {
		if out, e := Put(l, c.d, c.comment); e != c.e || e != api.OK && out != nil {
			t.Errorf("P25.1: Put %d: %v", i, e)
		}
	}
	many, _ := Put(nil, parse(t, pyramid("m", "0")), "")
	for i := 1; i < 100; i++ {
		many, _ = Put(many, parse(t, pyramid("m", strconv.Itoa(i))), "")
	}
	if len(many[0].Log) != 100 || Check(many) != api.OK {
		t.Fatal("P25.1: 100 versions")
	}
	for _, depth := range []string{"99", "100"} {
		if _, e := Put(many, parse(t, pyramid("m", depth)), ""); e != api.ErrLimit {
			t.Errorf("P25.1: version 101: %v", e)
		}
	}
	full := []Entry{}
	for i := range 100 {
		full, _ = Put(full, parse(t, pyramid("n"+strconv.Itoa(i), "1")), "")
	}
	if _, e := Put(full, d, ""); e != api.ErrLimit || len(full) != 100 {
		t.Errorf("P25.1: entry 101: %v", e)
	}
	if _, e := Put(full, parse(t, pyramid("n7", "2")), ""); e != api.OK {
		t.Errorf("P25.1: %v", e)
	}
	if Check(append(full, full[0])) != api.ErrLimit {
		t.Error("P25.1: 101 entries")
	}
	tagged := l
	for i := range 7 {
		tagged, _ = Tag(tagged, "m", "t"+strconv.Itoa(i))
	}
	for i, c := range []struct {
		l         []Entry
		name, tag string
		add, take api.Errno
	}{{l, "none", "1", api.ErrArg, api.ErrArg}, {l, "none", "x", api.ErrName, api.ErrName}, {l, "m", "old", api.ErrExist, api.OK}, {l, "m", "new", api.OK, api.ErrNone}, {tagged, "m", "t3", api.ErrExist, api.OK}, {tagged, "m", "new", api.ErrLimit, api.ErrNone}} {
		a, e1 := Tag(c.l, c.name, c.tag)
		b, e2 := Untag(c.l, c.name, c.tag)
		if e1 != c.add || e2 != c.take || e1 != api.OK && a != nil || e2 != api.OK && b != nil {
			t.Errorf("P25.1: Tag %d: %v %v", i, e1, e2)
		}
	}
	if out, e := Drop(l, "none"); e != api.ErrName || out != nil {
		t.Errorf("P25.1: Drop: %v", e)
	}
	if i, ok := Find(append(slices.Clone(l), l...), "m"); i != 2 || !ok {
		t.Errorf("P25.1: Find: %d", i)
	}
	if i, ok := Find(l, "none"); i != 0 || ok {
		t.Errorf("P25.1: Find: %d", i)
	}
	if Equal(l, l[1:]) || !Equal(nil, []Entry{}) || !Equal([]Entry{{}}, []Entry{{Tags: []string{}, Log: []api.Version{}}}) || Equal([]Entry{{}}, []Entry{{Tags: []string{""}}}) {
		t.Error("P25.1: Equal")
	}
}
