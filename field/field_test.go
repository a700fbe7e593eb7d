package field

import (
	"math/big"
	"math/rand"
	"strconv"
	"strings"
	"testing"

	"culet/api"
	"culet/bigint"
)

func ints(l ...int) (c [4]api.Int) {
	for i, n := range l {
		c[i] = bigint.Of(n)
	}
	return c
}

func number(t *testing.T, d int, l ...int) api.Num {
	t.Helper()
	x, e := Make(ints(l...), bigint.Of(d))
	if e != api.OK {
		t.Fatal(e)
	}
	return x
}

// samples has small and large numbers of all shapes.
func samples(t *testing.T) []api.Num {
	r := rand.New(rand.NewSource(1))
	l := []api.Num{Of(0), Of(1), Of(-1), Of(7), Root(2), Root(3), Root(6), number(t, 4, 0, 1, 0, 1), number(t, -6, 3, 0, 1, 0)}
	for _, size := range []int{3, 50, 1 << 12, 1 << 24, 1 << 40, 1 << 62} {
		for range 5 {
			x := number(t, 1+r.Intn(size), r.Intn(size)-size/2, r.Intn(size)-size/2, r.Intn(size)-size/2, r.Intn(size)-size/2)
			l = append(l, x)
		}
	}
	for range 6 {
		l = append(l, Mul(l[r.Intn(len(l))], Mul(l[r.Intn(len(l))], l[len(l)-1])))
	}
	return l
}

// float computes a number with 600 bits.
func float(x api.Num) *big.Float {
	sum := new(big.Float).SetPrec(600)
	for i, k := range []int64{1, 2, 3, 6} {
		c, _ := new(big.Int).SetString(bigint.Print(x.C[i]), 10)
		root := new(big.Float).SetPrec(600).Sqrt(new(big.Float).SetPrec(600).SetInt64(k))
		sum.Add(sum, root.Mul(root, new(big.Float).SetPrec(600).SetInt(c)))
	}
	d, _ := new(big.Int).SetString(bigint.Print(x.D), 10)
	return sum.Quo(sum, new(big.Float).SetPrec(600).SetInt(d))
}

func TestField(t *testing.T) { // P2.1, P2.2
	l := samples(t)
	for i, x := range l {
		if !Valid(x) {
			t.Fatalf("P2.1: %d", i)
		}
		for k, y := range l {
			z := l[(i*5+k*3)%len(l)]
			sum, product := Add(x, y), Mul(x, y)
			switch {
			case !Valid(sum) || !Valid(product) || sum != Add(y, x) || product != Mul(y, x):
				t.Fatalf("P2.2: commutative: %d %d", i, k)
			case Add(sum, z) != Add(x, Add(y, z)) || Mul(product, z) != Mul(x, Mul(y, z)):
				t.Fatalf("P2.2: associative: %d %d", i, k)
			case Mul(z, sum) != Add(Mul(z, x), Mul(z, y)) || Sub(x, y) != Add(x, Neg(y)) || Add(Sub(x, y), y) != x:
				t.Fatalf("P2.2: distributive: %d %d", i, k)
			}
			q, e := Div(x, y)
			if y == Of(0) {
				if q != (api.Num{}) || e != api.ErrDiv {
					t.Fatalf("P2.1: %v", e)
				}
			} else if e != api.OK || !Valid(q) || Mul(q, y) != x {
				t.Fatalf("P2.2: quotient: %s / %s", Print(x), Print(y))
			}
		}
		if Mul(x, Of(1)) != x || Add(x, Of(0)) != x || Add(x, Neg(x)) != Of(0) {
			t.Fatalf("P2.2: neutral: %d", i)
		}
	}
}

func TestRoots(t *testing.T) { // P2.3
	if Mul(Root(2), Root(2)) != Of(2) || Mul(Root(3), Root(3)) != Of(3) || Mul(Root(6), Root(6)) != Of(6) || Mul(Root(2), Root(3)) != Root(6) || Mul(Root(2), Root(6)) != Mul(Of(2), Root(3)) || Mul(Root(3), Root(6)) != Mul(Of(3), Root(2)) {
		t.Error("P2.3")
	}
	for _, k := range []int{-1, 0, 1, 4, 5, 7} {
		if Root(k) != Of(0) {
			t.Errorf("P2.1: Root(%d)", k)
		}
	}
}

func TestOrder(t *testing.T) { // P2.4
	l := samples(t)
	for i, x := range l {
		if Sign(x) != float(x).Sign() || Sign(Mul(x, x)) < 0 {
			t.Fatalf("P2.4: sign of %s", Print(x))
		}
		if Sign(Abs(x)) < 0 || Abs(x) != x && Abs(x) != Neg(x) {
			t.Fatalf("P2.1: Abs of %s", Print(x))
		}
		for k, y := range l {
			c, z := Cmp(x, y), l[(i+k)%len(l)]
			if c != float(x).Cmp(float(y)) || c != -Cmp(y, x) || Cmp(Add(x, z), Add(y, z)) != c {
				t.Fatalf("P2.4: %s %s", Print(x), Print(y))
			}
			if Sign(z) > 0 && Cmp(Mul(x, z), Mul(y, z)) != c {
				t.Fatalf("P2.4: times %s", Print(z))
			}
		}
	}
}

// TestClose has numbers that are so close to 0 that a few digits of the roots do not decide.
func TestClose(t *testing.T) { // P2.4, P2.6
	x, y := Sub(Root(2), Of(1)), Sub(Root(3), Root(2))
	p, q := x, y
	for i := range 9 {
		p, q = Mul(p, p), Mul(q, q)
		for _, z := range []api.Num{p, q, Mul(p, q)} {
			if Sign(z) != 1 || Sign(Neg(z)) != -1 || Floor(z) != bigint.Of(0) || Floor(Neg(z)) != bigint.Of(-1) || Cmp(Add(z, Of(3)), Of(3)) != 1 {
				t.Fatalf("P2.4: %d", i)
			}
		}
	}
	for _, n := range []int{0, 1 << 20, 1 << 52, 1 << 57} {
		if z := Sub(number(t, 1, 0, 665857, n, -n), number(t, 1, 941664, 0, n, -n)); Sign(z) != 1 {
			t.Errorf("P2.4: %s", Print(z))
		}
	}
}

func TestRational(t *testing.T) { // P2.5
	r := rand.New(rand.NewSource(2))
	ratio := func(x api.Num) *big.Rat {
		v, ok := new(big.Rat).SetString(Print(x))
		if !ok {
			t.Fatalf("P2.5: %s", Print(x))
		}
		return v
	}
	for range 500 {
		a, b, c, d := r.Intn(2000)-1000, r.Intn(1000)-1001, r.Intn(1<<30)-1<<29, r.Intn(1<<40)+1
		x, _ := Ratio(a, b)
		y, _ := Ratio(c, d)
		u, v := big.NewRat(int64(a), int64(b)), big.NewRat(int64(c), int64(d))
		q, _ := Div(y, x)
		if !Rational(x) || ratio(x).Cmp(u) != 0 || ratio(Add(x, y)).Cmp(new(big.Rat).Add(u, v)) != 0 || ratio(Mul(x, y)).Cmp(new(big.Rat).Mul(u, v)) != 0 || Cmp(x, y) != u.Cmp(v) {
			t.Fatalf("P2.5: %d/%d %d/%d", a, b, c, d)
		}
		if a != 0 && ratio(q).Cmp(new(big.Rat).Quo(v, u)) != 0 {
			t.Fatalf("P2.5: quotient %d/%d %d/%d", a, b, c, d)
		}
	}
	if x, e := Ratio(-1<<63, -1<<63); x != Of(1) || e != api.OK {
		t.Error("P2.5: Ratio")
	}
	if x, e := Ratio(1, 0); x != (api.Num{}) || e != api.ErrDiv {
		t.Error("P2.1: Ratio")
	}
	if Rational(Root(2)) || Rational(api.Num{}) || !Rational(Of(0)) {
		t.Error("P2.1: Rational")
	}
}

func TestEnclosures(t *testing.T) { // P2.6
	for _, x := range samples(t) {
		f := numberOf(Floor(x))
		if Cmp(f, x) > 0 || Cmp(x, Add(f, Of(1))) >= 0 {
			t.Fatalf("P2.6: floor of %s", Print(x))
		}
		lastLo, lastHi := bigint.Of(0), bigint.Of(0)
		for _, bits := range []int{0, 1, 2, 3, 64, 65, 200, 1000} {
			lo, hi, e := Enclose(x, bits)
			p, _ := bigint.Pow(bigint.Of(2), bits%101)
			for range bits / 101 {
				q, _ := bigint.Pow(bigint.Of(2), 101-1)
				p = bigint.Mul(p, bigint.Mul(q, bigint.Of(2)))
			}
			scaled := Mul(x, numberOf(p))
			whole := Rational(scaled) && scaled.D == bigint.Of(1)
			if e != api.OK || Cmp(numberOf(lo), scaled) > 0 || Cmp(numberOf(hi), scaled) < 0 {
				t.Fatalf("P2.6: %s with %d", Print(x), bits)
			}
			if diff := bigint.Sub(hi, lo); whole != (diff == bigint.Of(0)) || !whole && diff != bigint.Of(1) {
				t.Fatalf("P2.6: width of %s with %d", Print(x), bits)
			}
			if bits > 0 && bits < 4 && (bigint.Cmp(lo, bigint.Mul(lastLo, bigint.Of(2))) < 0 || bigint.Cmp(hi, bigint.Mul(lastHi, bigint.Of(2))) > 0) {
				t.Fatalf("P2.6: nested: %s", Print(x))
			}
			lastLo, lastHi = lo, hi
		}
	}
	for _, bits := range []int{-1, 1001} {
		if lo, hi, e := Enclose(Of(1), bits); lo != bigint.Of(0) || hi != bigint.Of(0) || e != api.ErrRange {
			t.Errorf("P2.1: Enclose with %d: %v", bits, e)
		}
	}
}

func numberOf(a api.Int) api.Num {
	x, _ := Make([4]api.Int{a}, bigint.Of(1))
	return x
}

func TestInvalid(t *testing.T) { // P2.1
	good := Of(2)
	bads := []api.Num{{}, {C: ints(1)}, {C: ints(2), D: bigint.Of(2)}, {C: ints(2, 4, 6, 8), D: bigint.Of(10)}, {C: ints(1), D: bigint.Of(-1)}, {C: [4]api.Int{{Neg: true}}, D: bigint.Of(1)}, {C: [4]api.Int{{Mag: "\x00"}}, D: bigint.Of(1)}, {D: bigint.Of(3)}, {C: ints(1), D: api.Int{Mag: "\x00\x01"}}, {C: ints(1<<40, 0, 0, 1<<41), D: bigint.Of(1 << 39)}, {C: [4]api.Int{{Mag: strings.Repeat("\x00", 9)}}, D: bigint.Of(1)}}
	zero := api.Num{}
	for i, bad := range bads {
		if Valid(bad) || Add(bad, good) != zero || Add(good, bad) != zero || Sub(good, bad) != zero || Sub(bad, good) != zero || Mul(bad, good) != zero || Mul(good, bad) != zero || Neg(bad) != zero || Abs(bad) != zero {
			t.Errorf("P2.1: %d: ring", i)
		}
		if Sign(bad) != 0 || Cmp(bad, good) != 0 || Cmp(good, bad) != 0 || Rational(bad) || Floor(bad) != bigint.Of(0) || Print(bad) != "" {
			t.Errorf("P2.1: %d: others", i)
		}
		if q, e := Div(bad, Of(0)); q != zero || e != api.ErrArg {
			t.Errorf("P2.1: %d: Div: %v", i, e)
		}
		if q, e := Div(good, bad); q != zero || e != api.ErrArg {
			t.Errorf("P2.1: %d: Div: %v", i, e)
		}
		if _, _, e := Enclose(bad, -1); e != api.ErrArg {
			t.Errorf("P2.1: %d: Enclose: %v", i, e)
		}
	}
	bad := [4]api.Int{{}, {Neg: true}}
	if x, e := Make(bad, bigint.Of(0)); x != zero || e != api.ErrArg {
		t.Errorf("P2.1: Make: %v", e)
	}
	if x, e := Make(ints(1), api.Int{Mag: "\x00"}); x != zero || e != api.ErrArg {
		t.Errorf("P2.1: Make: %v", e)
	}
	if x, e := Make(ints(1), bigint.Of(0)); x != zero || e != api.ErrDiv {
		t.Errorf("P2.1: Make: %v", e)
	}
	if number(t, -4, 2, -6) != number(t, 2, -1, 3) {
		t.Error("P2.1: Make: sign")
	}
}

func TestTexts(t *testing.T) { // P2.7
	for _, x := range samples(t) {
		s := Print(x)
		if strings.Trim(s, "0123456789/+-r") != "" {
			t.Fatalf("P2.7: %s", s)
		}
		long := 0
		for _, w := range strings.FieldsFunc(s, func(r rune) bool { return r < '0' || r > '9' }) {
			long = max(long, len(w))
		}
		if y, e := Parse(s); len(s) <= 400 && long <= 60 && (y != x || e != api.OK) {
			t.Fatalf("P2.7: %s: %v", s, e)
		}
	}
	for s, want := range map[string]string{
		"1": "1", "-0": "0", "0": "0", "1+1": "2", "2/4": "1/2", "1.50": "3/2", "0.05r2": "1/20r2", "r2": "r2", "-r6": "-r6", "r2+r2": "2r2", "-r3+1": "1-r3", "1r3": "r3", "3/2r6-1/2r6": "r6", "0/5": "0", "1-1": "0",
		"0.00000000000000000001": "1/1" + strings.Repeat("0", 20), strings.Repeat("9", 60): strings.Repeat("9", 60),
	} {
		if x, e := Parse(s); Print(x) != want || e != api.OK {
			t.Errorf("P2.7: %s: %s %v", s, Print(x), e)
		}
	}
	syntax := []string{"", "-", "+1", "+", "1+", "1++1", "--1", "1 ", " 1", "01", "00", "1/02", "1/", "/2", ".5", "1.", "1.5/2", "1/2.5", "r", "r4", "2r", "2rr", "r2r3", "1r2 ", "1e5", "1/0x", "r2 + r3", "0x1", "٣", strings.Repeat("9", 61), "1." + strings.Repeat("0", 21), "1/0+", "2 r2"}
	for _, s := range syntax {
		if x, e := Parse(s); x != (api.Num{}) || e != api.ErrSyntax {
			t.Errorf("P2.7: %q: %s %v", s, Print(x), e)
		}
	}
	for _, s := range []string{"1/0", "-1/0r2", "1+0/0", "r2-5/0+1"} {
		if x, e := Parse(s); x != (api.Num{}) || e != api.ErrDiv {
			t.Errorf("P2.7: %q: %v", s, e)
		}
	}
	if x, e := Parse(strings.Repeat("x", 401)); x != (api.Num{}) || e != api.ErrLimit {
		t.Errorf("P2.7: %v", e)
	}
	if x, e := Parse("1" + strings.Repeat("+1", 199)); Print(x) != "200" || e != api.OK {
		t.Errorf("P2.7: %v", e)
	}
}

func TestExamples(t *testing.T) {
	sum := Add(Root(2), Root(3))
	inverse, _ := Div(Of(1), sum)
	if Cmp(sum, Of(3)) != 1 || Print(inverse) != "-r2+r3" || Mul(Add(Of(1), Root(2)), Sub(Of(1), Root(2))) != Of(-1) {
		t.Error("examples")
	}
	if Print(number(t, 4, 0, 1, 0, 1)) != "1/4r2+1/4r6" || Print(number(t, 2, -1, 2, 0, -3)) != "-1/2+r2-3/2r6" {
		t.Error("texts")
	}
	if strconv.Itoa(Sign(Of(-3))) != "-1" {
		t.Error("Sign")
	}
}
