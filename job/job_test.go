package job

import (
	"math/rand"
	"slices"
	"strconv"
	"testing"

	"culet/api"
	"culet/parcel"
)

func piece(id string, weight int) api.Piece {
	return api.Piece{ID: id, Material: "ruby", Weight: weight, Count: 2}
}

func pieces() []api.Piece {
	return []api.Piece{piece("a", 500), piece("b", 300), piece("c", 1), piece("d", 1000)}
}

func order(id, on string, due, price int) Job {
	return Job{id, on, "round", due, price}
}

func accept(day int, j Job) Event { return Event{Kind: Accept, Day: day, Job: j} }

func event(kind, day int, id string, weight int) Event {
	return Event{Kind: kind, Day: day, ID: id, Weight: weight}
}

func random(r *rand.Rand, day int) Event {
	id := "j" + strconv.Itoa(r.Intn(6))
	day += r.Intn(3)
	switch k := 1 + r.Intn(5); k {
	case Accept:
		return accept(day, Job{id, string(rune('a' + r.Intn(5))), []string{"round", "oval"}[r.Intn(2)], r.Intn(40), r.Intn(100)})
	case Finish:
		return event(Finish, day, id, r.Intn(400))
	default:
		return event(k, day, id, 0)
	}
}

// histories returns lists of events that are possible.
func histories() (l [][]Event) {
	r := rand.New(rand.NewSource(1))
	for range 60 {
		events := []Event{}
		s, _ := Begin(pieces())
		for range 80 {
			x := random(r, s.Day)
			if next, e := Do(s, x); e == api.OK {
				events, s = append(events, x), next
			}
		}
		l = append(l, events)
	}
	return l
}

// weight has the weight of the parcel and of all pieces in work or done.
func weight(s Shop) int {
	sum, _ := parcel.Weigh(s.Parcel, "ruby")
	for _, x := range s.Items {
		if x.Status == Started || x.Status == Done || x.Status == Delivered {
			sum += x.Rough
		}
	}
	return sum
}

func TestHistories(t *testing.T) { // P54.2, P54.3, P54.4, P54.6, W14
	kinds := map[int]int{}
	for i, events := range histories() {
		s, _ := Begin(pieces())
		for k, x := range events {
			other, at, e := Of(pieces(), events[:k])
			if at != k || e != api.OK || !Equal(other, s) || !Right(s) {
				t.Fatalf("P54.6: %d %d: %v", i, k, e)
			}
			next, e := Do(s, x)
			kinds[x.Kind]++
			if e != api.OK || !Right(next) {
				t.Fatalf("P54.2: %d %d: %v", i, k, e)
			}
			if weight(next) != weight(s) || weight(next) != 1801 {
				t.Fatalf("P54.3: %d %d: %v: %d", i, k, x, weight(next))
			}
			earned, late := 0, 0
			cut, rough := map[string]int{}, map[string]int{}
			overdue := []string{}
			for _, y := range next.Items {
				if y.Status == Delivered {
					earned += y.Job.Price
					late += max(0, y.Since-y.Job.Due)
				}
				if y.Status == Done || y.Status == Delivered {
					cut[y.Job.Design] += y.Cut
					rough[y.Job.Design] += y.Rough
				}
				if y.Status <= Done && y.Job.Due < next.Day {
					overdue = append(overdue, y.Job.ID)
				}
			}
			if next.Earned != earned || next.Late != late || !slices.Equal(Overdue(next), overdue) {
				t.Fatalf("P54.4: %d %d: %v", i, k, next)
			}
			for _, d := range []string{"round", "oval", "none"} {
				if c, r := Yield(next, d); c != cut[d] || r != rough[d] || c > r {
					t.Fatalf("W14: %d %d: %s", i, k, d)
				}
			}
			if x.Kind == Start {
				back, e := Do(next, event(Cancel, x.Day, x.ID, 0))
				if e != api.OK || !slices.Equal(back.Parcel, s.Parcel) {
					t.Fatalf("P54.5: %d %d: %v", i, k, e)
				}
			}
			s = next
		}
	}
	if len(kinds) != 5 {
		t.Errorf("one-sided test: %v", kinds)
	}
}

func TestOrder(t *testing.T) { // P54.7
	same := 0
	for _, events := range histories() {
		for k := 1; k < len(events); k++ {
			x, y := events[k-1], events[k]
			y.Day = x.Day
			s, _, _ := Of(pieces(), events[:k-1])
			if x.ID+x.Job.ID == y.ID+y.Job.ID {
				continue
			}
			a, _ := Do(s, x)
			ab, e1 := Do(a, y)
			b, e2 := Do(s, y)
			ba, e3 := Do(b, x)
			if e1 == api.OK && e2 == api.OK && e3 == api.OK {
				same++
				if !Equal(ab, ba) {
					t.Fatalf("P54.7: %v %v", x, y)
				}
			}
		}
	}
	if same < 50 {
		t.Errorf("one-sided test: %d", same)
	}
}

func TestExample(t *testing.T) { // P54.1
	l := []api.Piece{piece("a", 500)}
	events := []Event{accept(1, order("j", "a", 10, 90)), event(Start, 2, "j", 0), event(Finish, 8, "j", 150), event(Deliver, 12, "j", 0)}
	want := []Item{{Job: order("j", "a", 10, 90), Status: Open, Since: 1}, {order("j", "a", 10, 90), Started, 2, 500, 0, piece("a", 500)}, {order("j", "a", 10, 90), Done, 8, 500, 150, api.Piece{}}, {order("j", "a", 10, 90), Delivered, 12, 500, 150, api.Piece{}}}
	for k := 1; k <= 4; k++ {
		s, _, e := Of(l, events[:k])
		if x, ok := Find(s, "j"); x != want[k-1] || !ok || e != api.OK || s.Day != want[k-1].Since || (len(s.Parcel) == 1) != (k == 1) {
			t.Errorf("P54.1: %d: %v", k, s)
		}
	}
	s, at, _ := Of(l, events)
	if s.Earned != 90 || s.Late != 2 || at != 4 {
		t.Errorf("P54.4: %v", s)
	}
	s, _, _ = Of(l, append(slices.Clone(events[:2]), event(Cancel, 5, "j", 0)))
	if x, _ := Find(s, "j"); x != (Item{Job: order("j", "a", 10, 90), Status: Cancelled, Since: 5}) || !slices.Equal(s.Parcel, l) {
		t.Errorf("P54.5: %v", s)
	}
}

func shop(t *testing.T) Shop {
	t.Helper()
	s, at, e := Of(pieces(), []Event{accept(1, order("j1", "a", 10, 9)), accept(2, order("j2", "b", 1, 9)), event(Start, 3, "j2", 0), accept(3, order("j3", "c", 5, 5)), event(Start, 4, "j3", 0), event(Finish, 5, "j3", 1), accept(5, order("j4", "d", 0, 0)), event(Cancel, 6, "j4", 0)})
	if e != api.OK {
		t.Fatal(at, e)
	}
	return s
}

func TestErrors(t *testing.T) { // P54.1
	wrong := shop(t)
	wrong.Day = -1
	lost := shop(t)
	lost.Parcel = lost.Parcel[1:]
	again := shop(t)
	again.Parcel = slices.Insert(again.Parcel, 1, piece("b", 7))
	full := shop(t)
	full.Parcel = nil
	for i := range 100 {
		full.Parcel = append(full.Parcel, piece("p"+strconv.Itoa(100+i), 1))
	}
	busy := shop(t)
	for i := range 56 {
		busy.Items = append(busy.Items, Item{Job: order("k"+strconv.Itoa(100+i), "a", 0, 0), Status: Cancelled})
	}
	good := order("j9", "d", 10, 9)
	for i, c := range []struct {
		s Shop
		x Event
		e api.Errno
	}{
		{wrong, accept(6, good), api.ErrArg}, {shop(t), Event{}, api.ErrArg}, {shop(t), event(6, 7, "j1", 0), api.ErrArg}, {shop(t), event(Start, -1, "j1", 0), api.ErrArg}, {shop(t), event(Start, 100001, "j1", 0), api.ErrArg}, {shop(t), event(Start, 7, "j1", 1), api.ErrArg}, {shop(t), Event{Kind: Start, Day: 7, ID: "j1", Job: good}, api.ErrArg}, {shop(t), Event{Kind: Accept, Day: 7, ID: "j1", Job: good}, api.ErrArg}, {shop(t), Event{Kind: Accept, Day: 7, Weight: 1, Job: good}, api.ErrArg}, {shop(t), accept(7, order("at", "d", 1, 1)), api.ErrArg}, {shop(t), accept(7, order("j9", "d", 100001, 1)), api.ErrArg},
		{shop(t), event(Start, 5, "j9", 0), api.ErrOrder}, {shop(t), accept(5, order("j1", "x", 1, 1)), api.ErrOrder}, {shop(t), accept(6, order("j1", "x", 1, 1)), api.ErrExist}, {shop(t), accept(6, order("j9", "x", 1, 1)), api.ErrNone}, {shop(t), accept(6, order("j9", "b", 1, 1)), api.ErrNone}, {shop(t), accept(6, order("j9", "a", 1, 1)), api.ErrState}, {shop(t), accept(6, good), api.OK}, {busy, accept(6, order("j9", "a", 1, 1)), api.ErrState}, {busy, accept(6, good), api.ErrLimit},
		{shop(t), event(Start, 6, "j9", 0), api.ErrNone}, {shop(t), event(Start, 6, "j2", 0), api.ErrState}, {shop(t), event(Start, 6, "j4", 0), api.ErrState}, {shop(t), event(Start, 6, "j1", 0), api.OK}, {lost, event(Start, 6, "j1", 0), api.ErrNone}, {lost, event(Start, 6, "j2", 0), api.ErrState},
		{shop(t), event(Finish, 6, "j1", 0), api.ErrState}, {shop(t), event(Finish, 6, "j2", 0), api.ErrRange}, {shop(t), event(Finish, 6, "j2", 301), api.ErrRange}, {shop(t), event(Finish, 6, "j2", 300), api.OK}, {shop(t), event(Finish, 6, "", 300), api.ErrNone},
		{shop(t), event(Deliver, 6, "j2", 0), api.ErrState}, {shop(t), event(Deliver, 6, "j3", 0), api.OK}, {shop(t), event(Deliver, 6, "j3", 1), api.ErrArg},
		{shop(t), event(Cancel, 6, "j1", 0), api.OK}, {shop(t), event(Cancel, 6, "j2", 0), api.OK}, {shop(t), event(Cancel, 6, "j3", 0), api.ErrState}, {shop(t), event(Cancel, 6, "j4", 0), api.ErrState}, {again, event(Cancel, 6, "j2", 0), api.ErrExist}, {full, event(Cancel, 6, "j2", 0), api.ErrLimit},
	} {
		s, e := Do(c.s, c.x)
		if e != c.e || e == api.OK && !Right(s) || e != api.OK && !Equal(s, Shop{}) {
			t.Errorf("P54.1: %d: %v", i, e)
		}
	}
	before := shop(t)
	Do(before, event(Start, 6, "j1", 0))
	Do(before, event(Cancel, 6, "j2", 0))
	if !Equal(before, shop(t)) {
		t.Error("P54.1: argument changed")
	}
}

func TestRight(t *testing.T) { // P54.1
	if !Right(shop(t)) || !Right(Shop{}) {
		t.Fatal("P54.1: Right")
	}
	for i, f := range []func(s *Shop){
		func(s *Shop) { s.Day = 100001 }, func(s *Shop) { s.Day = 5 }, func(s *Shop) { s.Earned = -1 }, func(s *Shop) { s.Late = -1 }, func(s *Shop) { s.Parcel[0].Weight = 0 }, func(s *Shop) { s.Items[0], s.Items[1] = s.Items[1], s.Items[0] }, func(s *Shop) { s.Items[1].Job.ID = "j1" }, func(s *Shop) { s.Items[0].Job.Due = -1 }, func(s *Shop) { s.Items[0].Status = 0 }, func(s *Shop) { s.Items[0].Status = 6 }, func(s *Shop) { s.Items[0].Since = -1 }, func(s *Shop) { s.Items[0].Rough = 1 }, func(s *Shop) { s.Items[0].Rough = -1 }, func(s *Shop) { s.Items[0].Cut = 1 }, func(s *Shop) { s.Items[0].Whole = piece("a", 5) },
		func(s *Shop) { s.Items[1].Rough = 0 }, func(s *Shop) { s.Items[1].Rough = 299 }, func(s *Shop) { s.Items[1].Cut = 1 }, func(s *Shop) { s.Items[1].Whole = api.Piece{} }, func(s *Shop) { s.Items[1].Whole.ID = "a" }, func(s *Shop) { s.Items[1].Whole.Count = 0 }, func(s *Shop) { s.Items[2].Cut = 0 }, func(s *Shop) { s.Items[2].Cut = 2 }, func(s *Shop) { s.Items[2].Rough = 0 }, func(s *Shop) { s.Items[2].Whole = piece("c", 1) }, func(s *Shop) { s.Items[3].Rough = 5 },
		func(s *Shop) { s.Items[3] = Item{Job: order("j4", "a", 0, 0), Status: Open} }, func(s *Shop) { s.Items = make([]Item, 61) },
	} {
		s := shop(t)
		f(&s)
		if Right(s) || Equal(s, shop(t)) {
			t.Errorf("P54.1: %d", i)
		}
	}
	for i, j := range []Job{{}, {"at", "a", "d", 0, 0}, {"j", "", "d", 0, 0}, {"j", "a", "1", 0, 0}, {"j", "a", "d", -1, 0}, {"j", "a", "d", 100001, 0}, {"j", "a", "d", 0, -1}, {"j", "a", "d", 0, 1000001}} {
		if Valid(j) {
			t.Errorf("P54.1: %d", i)
		}
	}
}

func TestOf(t *testing.T) { // P54.1, P54.6
	many := make([]Event, 201)
	bad := []api.Piece{{}}
	for i, c := range []struct {
		l      []api.Piece
		events []Event
		at     int
		e      api.Errno
	}{{bad, many, 0, api.ErrLimit}, {bad, many[:1], 0, api.ErrArg}, {nil, many[:1], 0, api.ErrArg}, {nil, many[:200], 0, api.ErrArg}, {pieces(), []Event{accept(1, order("j", "a", 1, 1)), event(Start, 0, "j", 0)}, 1, api.ErrOrder}} {
		if s, at, e := Of(c.l, c.events); at != c.at || e != c.e || !Equal(s, Shop{}) {
			t.Errorf("P54.1: %d: %d %v", i, at, e)
		}
	}
	if s, e := Begin(bad); e != api.ErrArg || !Equal(s, Shop{}) {
		t.Errorf("P54.1: %v", e)
	}
	if s, at, e := Of(pieces(), nil); at != 0 || e != api.OK || s.Day != 0 || len(s.Items) != 0 {
		t.Errorf("P54.1: %v", e)
	}
	odd := Shop{Day: 9, Items: []Item{{Job: Job{ID: "x", Due: 3}, Status: Done, Cut: 5, Rough: 1}, {Job: Job{ID: "x", Due: 9}, Status: Open}, {Job: Job{ID: "y", Due: 1}, Status: Cancelled}}}
	x, ok := Find(odd, "x")
	_, none := Find(odd, "z")
	if cut, rough := Yield(odd, ""); x.Cut != 5 || !ok || none || cut != 5 || rough != 1 || !slices.Equal(Overdue(odd), []string{"x"}) {
		t.Error("P54.1: any shop")
	}
}
