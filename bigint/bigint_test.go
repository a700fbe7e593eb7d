package bigint

import (
	"math"
	"math/big"
	"math/rand"
	"strings"
	"testing"

	"culet/api"
)

func fromBig(x *big.Int) api.Int {
	return api.Int{Neg: x.Sign() < 0, Mag: string(new(big.Int).Abs(x).Bytes())}
}

func toBig(a api.Int) *big.Int {
	x := new(big.Int).SetBytes([]byte(a.Mag))
	if a.Neg {
		x.Neg(x)
	}
	return x
}

// samples has integers of many lengths, among them those at the borders of words.
func samples() []*big.Int {
	r := rand.New(rand.NewSource(1))
	l := []*big.Int{}
	for _, n := range []int64{0, 1, 2, 3, 255, 256, 257, math.MaxInt64} {
		l = append(l, big.NewInt(n), big.NewInt(-n))
	}
	for _, bit := range []uint{31, 63, 64, 65, 127, 128, 191, 192, 700} {
		p := new(big.Int).Lsh(big.NewInt(1), bit)
		m := new(big.Int).Sub(p, big.NewInt(1))
		l = append(l, p, m, new(big.Int).Neg(p), new(big.Int).Neg(m))
	}
	for range 60 {
		x := new(big.Int).Rand(r, new(big.Int).Lsh(big.NewInt(1), uint(1+r.Intn(600))))
		if r.Intn(2) == 0 {
			x.Neg(x)
		}
		l = append(l, x)
	}
	return l
}

func same(t *testing.T, name string, got api.Int, want *big.Int) {
	t.Helper()
	if got != fromBig(want) || !Valid(got) {
		t.Fatalf("%s: got %v, want %v", name, toBig(got), want)
	}
}

func floorDiv(x, y *big.Int) (*big.Int, *big.Int) {
	q, r := new(big.Int).DivMod(x, y, new(big.Int))
	if r.Sign() != 0 && y.Sign() < 0 {
		q.Sub(q, big.NewInt(1))
		r.Add(r, y)
	}
	return q, r
}

func TestAgainstOracle(t *testing.T) { // P1.1, P1.3, P1.4, P1.7
	l := samples()
	for _, x := range l {
		a := fromBig(x)
		same(t, "Neg", Neg(a), new(big.Int).Neg(x))
		same(t, "Abs", Abs(a), new(big.Int).Abs(x))
		if Sign(a) != x.Sign() || Bits(a) != x.BitLen() || Print(a) != x.String() {
			t.Fatalf("P1.1: %v: %d %d %s", x, Sign(a), Bits(a), Print(a))
		}
		n, ok := Int64(a)
		if ok != x.IsInt64() || ok && int64(n) != x.Int64() || !ok && n != 0 {
			t.Fatalf("P1.5: %v: %d %v", x, n, ok)
		}
		for _, y := range l {
			b := fromBig(y)
			same(t, "Add", Add(a, b), new(big.Int).Add(x, y))
			same(t, "Sub", Sub(a, b), new(big.Int).Sub(x, y))
			same(t, "Mul", Mul(a, b), new(big.Int).Mul(x, y))
			same(t, "Gcd", Gcd(a, b), new(big.Int).GCD(nil, nil, new(big.Int).Abs(x), new(big.Int).Abs(y)))
			if Cmp(a, b) != x.Cmp(y) {
				t.Fatalf("P1.7: %v %v", x, y)
			}
			if y.Sign() == 0 {
				continue
			}
			q, r, e := DivMod(a, b)
			wantQ, wantR := floorDiv(x, y)
			same(t, "quotient", q, wantQ)
			same(t, "remainder", r, wantR)
			if e != api.OK {
				t.Fatalf("P1.3: %v", e)
			}
		}
	}
}

func TestHardDivisions(t *testing.T) { // P1.3: digits that have to be corrected
	r := rand.New(rand.NewSource(2))
	words := []uint64{0, 1, 1 << 63, 1<<63 - 1, math.MaxUint64, math.MaxUint64 - 1}
	number := func(n int) *big.Int {
		x := new(big.Int)
		for range n {
			x.Lsh(x, 64).Or(x, new(big.Int).SetUint64(words[r.Intn(len(words))]))
		}
		return x
	}
	for range 20000 {
		x, y := number(1+r.Intn(6)), number(1+r.Intn(4))
		same(t, "Gcd", Gcd(fromBig(x), fromBig(y)), new(big.Int).GCD(nil, nil, x, y))
		if y.Sign() == 0 {
			continue
		}
		q, rest, _ := DivMod(fromBig(x), fromBig(y))
		wantQ, wantR := floorDiv(x, y)
		same(t, "quotient", q, wantQ)
		same(t, "remainder", rest, wantR)
	}
}

func TestDifference(t *testing.T) { // P1.4: the steps of the greatest common divisor
	r := rand.New(rand.NewSource(6))
	for range 5000 {
		number := func() *big.Int {
			x := new(big.Int)
			for range 1 + r.Intn(4) {
				w := r.Uint64()
				if r.Intn(3) == 0 {
					w = math.MaxUint64 - uint64(r.Intn(3))
				}
				x.Lsh(x, 64).Or(x, new(big.Int).SetUint64(w))
			}
			return x
		}
		a, b := number(), number()
		x, y := r.Uint64(), math.MaxUint64-uint64(r.Intn(5))
		left := new(big.Int).Mul(a, new(big.Int).SetUint64(x))
		right := new(big.Int).Mul(b, new(big.Int).SetUint64(y))
		if left.Cmp(right) < 0 {
			continue
		}
		got := difference(split(string(a.Bytes())), x, split(string(b.Bytes())), y)
		same(t, "difference", api.Int{Mag: join(got)}, left.Sub(left, right))
	}
}

func TestRing(t *testing.T) { // P1.2
	l := samples()
	for i, x := range l {
		a, b, c := fromBig(x), fromBig(l[(i*7+3)%len(l)]), fromBig(l[(i*11+5)%len(l)])
		switch {
		case Add(a, b) != Add(b, a) || Mul(a, b) != Mul(b, a):
			t.Errorf("P1.2: commutative: %d", i)
		case Add(Add(a, b), c) != Add(a, Add(b, c)) || Mul(Mul(a, b), c) != Mul(a, Mul(b, c)):
			t.Errorf("P1.2: associative: %d", i)
		case Mul(a, Add(b, c)) != Add(Mul(a, b), Mul(a, c)) || Sub(a, b) != Add(a, Neg(b)):
			t.Errorf("P1.2: distributive: %d", i)
		}
	}
}

func TestLargeProducts(t *testing.T) { // P1.2: products of halves
	r := rand.New(rand.NewSource(3))
	for _, n := range []uint{2500, 5000, 5200, 20001} {
		x := new(big.Int).Rand(r, new(big.Int).Lsh(big.NewInt(1), n))
		y := new(big.Int).Rand(r, new(big.Int).Lsh(big.NewInt(1), 64*41+n/3))
		same(t, "Mul", Mul(fromBig(x), fromBig(y)), new(big.Int).Mul(x, y))
		sparse := new(big.Int).Lsh(big.NewInt(1), n)
		same(t, "Mul", Mul(fromBig(sparse), fromBig(y)), new(big.Int).Mul(sparse, y))
	}
}

func TestLargeTextsAndRoots(t *testing.T) { // P1.6, P1.8
	r := rand.New(rand.NewSource(5))
	for _, n := range []uint{63, 64, 65, 127, 1000, 4096, 5000, 20000, 20001} {
		top := new(big.Int).Lsh(big.NewInt(1), n)
		for _, x := range []*big.Int{top, new(big.Int).Sub(top, big.NewInt(1)), new(big.Int).Rand(r, top), new(big.Int).Exp(big.NewInt(10), big.NewInt(int64(n/3)), nil)} {
			if s := Print(fromBig(x)); s != x.String() {
				t.Fatalf("P1.8: %d bits: %.50s", n, s)
			}
			root, e := Sqrt(fromBig(x))
			if e != api.OK {
				t.Fatal(e)
			}
			same(t, "Sqrt", root, new(big.Int).Sqrt(x))
		}
	}
}

func TestWords(t *testing.T) { // P1.5
	r := rand.New(rand.NewSource(4))
	for range 2000 {
		x, y := r.Intn(1<<32)-1<<31, r.Intn(1<<32)-1<<31
		if Add(Of(x), Of(y)) != Of(x+y) || Sub(Of(x), Of(y)) != Of(x-y) || Mul(Of(x), Of(y)) != Of(x*y) {
			t.Fatalf("P1.5: %d %d", x, y)
		}
	}
	for _, n := range []int{math.MinInt64, math.MinInt64 + 1, -1, 0, 1, math.MaxInt64} {
		if got, ok := Int64(Of(n)); got != n || !ok || !Valid(Of(n)) {
			t.Errorf("P1.5: %d: %d %v", n, got, ok)
		}
	}
}

func TestInvalid(t *testing.T) { // P1.1
	good := Of(5)
	for i, bad := range []api.Int{{Neg: true}, {Mag: "\x00"}, {Neg: true, Mag: "\x00\x01"}} {
		zero := api.Int{}
		if Valid(bad) || Add(bad, good) != zero || Add(good, bad) != zero || Sub(good, bad) != zero || Sub(bad, good) != zero || Mul(bad, good) != zero || Mul(good, bad) != zero || Gcd(bad, good) != zero || Gcd(good, bad) != zero {
			t.Errorf("P1.1: %d: ring", i)
		}
		if Neg(bad) != zero || Abs(bad) != zero || Sign(bad) != 0 || Cmp(bad, good) != 0 || Cmp(good, bad) != 0 || Bits(bad) != 0 || Print(bad) != "" {
			t.Errorf("P1.1: %d: others", i)
		}
		if _, ok := Int64(bad); ok {
			t.Errorf("P1.1: %d: Int64", i)
		}
		if q, r, e := DivMod(bad, zero); q != zero || r != zero || e != api.ErrArg {
			t.Errorf("P1.1: %d: DivMod", i)
		}
		if _, _, e := DivMod(good, bad); e != api.ErrArg {
			t.Errorf("P1.1: %d: DivMod", i)
		}
		if p, e := Pow(bad, -1); p != zero || e != api.ErrArg {
			t.Errorf("P1.1: %d: Pow", i)
		}
		if s, e := Sqrt(bad); s != zero || e != api.ErrArg {
			t.Errorf("P1.1: %d: Sqrt", i)
		}
	}
	if q, r, e := DivMod(good, Of(0)); q != Of(0) || r != Of(0) || e != api.ErrDiv {
		t.Errorf("P1.1: division by 0: %v", e)
	}
}

func TestPowers(t *testing.T) { // P1.6
	for _, n := range []int{-3, -2, -1, 0, 1, 2, 10, 65537} {
		for j := 0; j <= MaxPower; j += 9 {
			for k := 0; j+k <= MaxPower; k += 13 {
				p, _ := Pow(Of(n), j)
				q, _ := Pow(Of(n), k)
				r, e := Pow(Of(n), j+k)
				if Mul(p, q) != r || e != api.OK {
					t.Fatalf("P1.6: %d to %d + %d", n, j, k)
				}
			}
			p, _ := Pow(Of(n), j)
			same(t, "Pow", p, new(big.Int).Exp(big.NewInt(int64(n)), big.NewInt(int64(j)), nil))
		}
	}
	long := api.Int{Mag: strings.Repeat("\x01", MaxBytes)}
	if p, e := Pow(long, 2); p != Mul(long, long) || e != api.OK {
		t.Error("P1.6: 4000 bytes")
	}
	long.Mag += "\x01"
	for k, want := range map[int]api.Errno{-1: api.ErrRange, 101: api.ErrRange, 0: api.ErrLimit, 2: api.ErrLimit} {
		if p, e := Pow(long, k); p != (api.Int{}) || e != want {
			t.Errorf("P1.6: 4001 bytes to %d: %v", k, e)
		}
	}
}

func TestRoots(t *testing.T) { // P1.6
	for _, x := range samples() {
		a := fromBig(x)
		s, e := Sqrt(a)
		if x.Sign() < 0 {
			if e != api.ErrRange || s != (api.Int{}) {
				t.Errorf("P1.6: %v: %v", x, e)
			}
			continue
		}
		next := Add(s, Of(1))
		if e != api.OK || Cmp(Mul(s, s), a) > 0 || Cmp(Mul(next, next), a) <= 0 {
			t.Errorf("P1.6: root of %v: %v", x, Print(s))
		}
		if r, _ := Sqrt(Mul(a, a)); r != a {
			t.Errorf("P1.6: root of the square of %v: %v", x, Print(r))
		}
	}
}

func TestOrder(t *testing.T) { // P1.7
	l := samples()
	for i, x := range l {
		for k, y := range l {
			a, b, c := fromBig(x), fromBig(y), fromBig(l[(i+k)%len(l)])
			if Cmp(Add(a, c), Add(b, c)) != Cmp(a, b) || Cmp(a, b) != -Cmp(b, a) {
				t.Fatalf("P1.7: %v %v", x, y)
			}
			if Sign(c) > 0 && Cmp(Mul(a, c), Mul(b, c)) != Cmp(a, b) {
				t.Fatalf("P1.7: times %v", toBig(c))
			}
		}
	}
}

func TestTexts(t *testing.T) { // P1.8
	for _, x := range samples() {
		if a, e := Parse(x.String()); a != fromBig(x) || e != api.OK {
			t.Errorf("P1.8: %v: %v", x, e)
		}
	}
	for _, s := range []string{"", "-", "+1", "00", "01", "-0", "-01", " 1", "1 ", "1a", "٣", "--1", strings.Repeat("1", 500) + "x", "0" + strings.Repeat("1", 500)} {
		if a, e := Parse(s); a != (api.Int{}) || e != api.ErrSyntax {
			t.Errorf("P1.8: %q: %v", s, e)
		}
	}
	for _, s := range []string{strings.Repeat("9", 400), "-" + strings.Repeat("9", 400), "1" + strings.Repeat("0", 399)} {
		if a, e := Parse(s); Print(a) != s || e != api.OK {
			t.Errorf("P1.8: %v", e)
		}
		if a, e := Parse(s + "0"); a != (api.Int{}) || e != api.ErrLimit {
			t.Errorf("P1.8: 401 digits: %v", e)
		}
	}
}

func TestExamples(t *testing.T) {
	q, r, _ := DivMod(Of(-7), Of(2))
	p, _ := Pow(Of(2), 70)
	s, _ := Sqrt(p)
	h, _ := Pow(Of(2), 35)
	if q != Of(-4) || r != Of(1) || Print(p) != "1180591620717411303424" || s != h {
		t.Error("examples")
	}
}
