package axis

import (
	"math/rand"
	"testing"

	"culet/api"
	"culet/field"
	"culet/vector"
)

func TestRefuses(t *testing.T) {
	r := rand.New(rand.NewSource(1))
	point := func(size int) api.Vec { return vector.Of(r.Intn(size), r.Intn(size), r.Intn(size)) }
	refused := 0
	for range 30 {
		a, b := []api.Vec{}, []api.Vec{}
		for range 5 {
			a, b = append(a, point(9)), append(b, vector.Add(point(9), vector.Of(5, 3, 0)))
		}
		f := New(a, b)
		for range 40 {
			n := vector.Sub(point(9), vector.Of(4, 4, 4))
			want := false
			for _, v := range a {
				for _, w := range b {
					want = want || field.Cmp(vector.Dot(n, v), vector.Dot(n, w)) > 0
				}
			}
			if f.Refuses(n) != want {
				t.Fatalf("%s", vector.Print(n))
			}
			if want {
				refused++
			}
		}
	}
	if refused == 0 || refused == 1200 {
		t.Errorf("one-sided test: %d", refused)
	}
}

func TestWhole(t *testing.T) {
	v, _ := vector.Parse("(1/2, -r2/3, 5)")
	if v == (api.Vec{}) {
		v, _ = vector.Parse("(1/2, -1/3r2, 5)")
	}
	if w := Whole(v); vector.Print(w) != "(3, -2r2, 30)" {
		t.Errorf("%s", vector.Print(w))
	}
}
