package num_test

import (
	"fmt"
	"math"
	"math/big"
	"slices"
	"strings"
	"testing"

	"marginalia/api"
	"marginalia/num"
)

// unsound is one integer for each way of not being sound.
func unsound() []api.Int {
	long := make([]uint32, api.MaxLimbs+1)
	long[api.MaxLimbs] = 1
	return []api.Int{
		{Neg: true},
		{Neg: true, Limbs: []uint32{}},
		{Limbs: []uint32{0}},
		{Neg: true, Limbs: []uint32{0}},
		{Limbs: []uint32{7, 0}},
		{Limbs: []uint32{api.Base}},
		{Limbs: []uint32{api.Base, 1}},
		{Limbs: []uint32{1, math.MaxUint32, 1}},
		{Limbs: long},
		{Limbs: make([]uint32, 1000)},
	}
}

// whole is the integer of limbs that are all the same.
func whole(neg bool, limb uint32, many int) api.Int {
	return api.Int{Neg: neg, Limbs: slices.Repeat([]uint32{limb}, many)}
}

// most is the greatest integer that is sound.
func most(neg bool) api.Int { return whole(neg, api.Base-1, api.MaxLimbs) }

// same tells if both are the same; lists that are nil and empty are.
func same(a, b api.Int) bool { return a.Neg == b.Neg && slices.Equal(a.Limbs, b.Limbs) }

// value is what x stands for.
func value(x api.Int) *big.Int {
	v, base := new(big.Int), big.NewInt(api.Base)
	for _, l := range slices.Backward(x.Limbs) {
		v.Mul(v, base).Add(v, big.NewInt(int64(l)))
	}
	if x.Neg {
		v.Neg(v)
	}
	return v
}

// of is the integer that stands for v.
func of(v *big.Int) api.Int {
	x, rest := api.Int{Neg: v.Sign() < 0}, new(big.Int).Abs(v)
	for limb, base := new(big.Int), big.NewInt(api.Base); rest.Sign() != 0; {
		rest.QuoRem(rest, base, limb)
		x.Limbs = append(x.Limbs, uint32(limb.Uint64()))
	}
	return x
}

// samples are integers of many lengths, with limbs at their ends and between, always the same ones.
func samples(many int) []api.Int {
	edges := []uint32{0, 1, 2, api.Base/2 - 1, api.Base / 2, api.Base/2 + 1, api.Base - 2, api.Base - 1}
	seed := uint64(1)
	next := func(n uint64) uint64 {
		seed = seed*6364136223846793005 + 1442695040888963407
		return (seed >> 33) % n
	}
	list := []api.Int{{}, most(false), most(true)}
	for len(list) < many {
		size := int(next(6)) + 1
		if next(4) == 0 {
			size = int(next(api.MaxLimbs)) + 1
		}
		x := api.Int{Neg: next(2) == 0, Limbs: make([]uint32, size)}
		for i := range x.Limbs {
			x.Limbs[i] = edges[next(uint64(len(edges)))]
			if next(3) == 0 {
				x.Limbs[i] = uint32(next(api.Base))
			}
		}
		x.Limbs[size-1] = max(1, x.Limbs[size-1])
		list = append(list, x)
	}
	return list
}

// P1.1

func TestOf(t *testing.T) {
	for _, c := range []struct {
		n    int
		want api.Int
	}{
		{0, api.Int{}},
		{1, api.Int{Limbs: []uint32{1}}},
		{-1, api.Int{Neg: true, Limbs: []uint32{1}}},
		{api.Base - 1, api.Int{Limbs: []uint32{api.Base - 1}}},
		{api.Base, api.Int{Limbs: []uint32{0, 1}}},
		{-api.Base, api.Int{Neg: true, Limbs: []uint32{0, 1}}},
		{math.MaxInt, api.Int{Limbs: []uint32{854775807, 223372036, 9}}},
		{math.MinInt, api.Int{Neg: true, Limbs: []uint32{854775808, 223372036, 9}}},
	} {
		if x := num.Of(c.n); !same(x, c.want) {
			t.Errorf("Of(%d) is %v, not %v", c.n, x, c.want)
		}
	}
}

func TestSound(t *testing.T) {
	for _, x := range samples(300) {
		if !num.Sound(x) {
			t.Errorf("%v is sound", x)
		}
	}
	for _, x := range unsound() {
		if num.Sound(x) {
			t.Errorf("%v is not sound", x)
		}
	}
}

func TestSmall(t *testing.T) {
	for _, n := range []int{0, 1, -1, 999999999, 1000000000, -1000000000, 1e18, math.MaxInt - 1, math.MaxInt, math.MinInt, math.MinInt + 1} {
		if k, ok := num.Small(num.Of(n)); k != n || !ok {
			t.Errorf("Small of %d is %d, %v", n, k, ok)
		}
	}
	for _, s := range []string{"9223372036854775808", "-9223372036854775809", "18446744073709551615", "18446744073709551616", "18446744073709551617", "-18446744073709551616", "999999999999999999999999999", "1000000000000000000000000000"} {
		x, _ := num.Parse(s)
		if k, ok := num.Small(x); k != 0 || ok {
			t.Errorf("Small of %s is %d, %v", s, k, ok)
		}
	}
	for _, x := range append(unsound(), most(false), most(true)) {
		if k, ok := num.Small(x); k != 0 || ok {
			t.Errorf("Small of %v is %d, %v", x, k, ok)
		}
	}
}

func TestText(t *testing.T) {
	for _, c := range []struct {
		x    api.Int
		want string
	}{
		{api.Int{}, "0"},
		{api.Int{Limbs: []uint32{}}, "0"},
		{num.Of(7), "7"},
		{num.Of(-7), "-7"},
		{num.Of(1000000000), "1000000000"},
		{api.Int{Neg: true, Limbs: []uint32{7, 0, 20}}, "-20000000000000000007"},
		{most(false), strings.Repeat("9", 9*api.MaxLimbs)},
		{most(true), "-" + strings.Repeat("9", 9*api.MaxLimbs)},
	} {
		if s := num.Text(c.x); s != c.want {
			t.Errorf("Text of %v is %q, not %q", c.x, s, c.want)
		}
	}
	for _, x := range unsound() {
		if s := num.Text(x); s != "" {
			t.Errorf("Text of %v is %q", x, s)
		}
	}
	for _, x := range samples(300) {
		if s := num.Text(x); s != value(x).String() {
			t.Errorf("Text of %v is %q", x, s)
		}
	}
}

func TestParse(t *testing.T) {
	for s, want := range map[string]api.Int{
		"0":                                      {},
		"-0":                                     {},
		"+0":                                     {},
		"-0000000000000000000000000":             {},
		"7":                                      num.Of(7),
		"+7":                                     num.Of(7),
		"-7":                                     num.Of(-7),
		"007":                                    num.Of(7),
		"-00000000000000000007":                  num.Of(-7),
		"999999999":                              num.Of(999999999),
		"1000000000":                             num.Of(1000000000),
		"-9223372036854775808":                   num.Of(math.MinInt),
		strings.Repeat("9", 9*api.MaxLimbs):      most(false),
		"-0" + strings.Repeat("9", 576):          most(true),
		strings.Repeat("0", 100000) + "12":       num.Of(12),
		"+" + strings.Repeat("0", 100000) + "12": num.Of(12),
	} {
		if x, ok := num.Parse(s); !ok || !same(x, want) {
			t.Errorf("Parse(%.40q) is %v, %v", s, x, ok)
		}
	}
	for _, x := range samples(300) {
		if y, ok := num.Parse(num.Text(x)); !ok || !same(x, y) {
			t.Errorf("Parse of the text of %v is %v, %v", x, y, ok)
		}
	}
}

func TestParseRefuses(t *testing.T) {
	list := []string{"", "+", "-", "+-1", "--1", "++1", "-+1", " 1", "1 ", "1a", "a", "1.0", "1e3", "0x1", "1_0", "1-", "1+1", "\x001", "1\x00", "/", ":", "1/", "1:", "٣", "1٣", "\xff", "−1", "1" + strings.Repeat("0", 576), "-1" + strings.Repeat("0", 576), strings.Repeat("9", 100000), strings.Repeat("0", 600) + "x"}
	for _, s := range list {
		if x, ok := num.Parse(s); ok || !same(x, api.Int{}) {
			t.Errorf("Parse(%.40q) is %v, %v", s, x, ok)
		}
	}
}

// P1.2

func TestCmp(t *testing.T) {
	list := samples(120)
	for _, a := range list {
		for _, b := range list {
			if c := num.Cmp(a, b); c != value(a).Cmp(value(b)) {
				t.Errorf("Cmp of %v and %v is %d", a, b, c)
			}
		}
	}
	for _, x := range unsound() {
		for _, a := range []api.Int{{}, num.Of(5), num.Of(-5), x} {
			if num.Cmp(a, x) != 0 || num.Cmp(x, a) != 0 {
				t.Errorf("Cmp of %v and %v is not 0", a, x)
			}
		}
	}
}

// two is a call with two integers, and what it has to answer for two that are sound.
type two struct {
	name string
	call func(a, b api.Int) (api.Int, api.Errno)
	want func(z, a, b *big.Int) *big.Int
}

func calls() []two {
	quotient := func(a, b api.Int) (api.Int, api.Errno) { q, _, e := num.Divide(a, b); return q, e }
	rest := func(a, b api.Int) (api.Int, api.Errno) { _, r, e := num.Divide(a, b); return r, e }
	modulo := func(z, a, b *big.Int) *big.Int {
		if z.Rem(a, b); z.Sign()*b.Sign() < 0 {
			z.Add(z, b)
		}
		return z
	}
	return []two{
		{"Add", num.Add, (*big.Int).Add},
		{"Sub", num.Sub, (*big.Int).Sub},
		{"Mul", num.Mul, (*big.Int).Mul},
		{"Divide's q", quotient, (*big.Int).Quo},
		{"Divide's r", rest, (*big.Int).Rem},
		{"Modulo", num.Modulo, modulo},
	}
}

// check holds what a call answers against what it has to answer.
func check(t *testing.T, c two, divides bool, a, b api.Int) {
	t.Helper()
	want, fault := api.Int{}, api.OK
	if divides && len(b.Limbs) == 0 {
		fault = api.ErrZero
	} else if want = of(c.want(new(big.Int), value(a), value(b))); len(want.Limbs) > api.MaxLimbs {
		want, fault = api.Int{}, api.ErrLarge
	}
	if x, e := c.call(a, b); e != fault || !same(x, want) {
		t.Fatalf("%s of %v and %v is %v, %d, not %v, %d", c.name, a, b, x, e, want, fault)
	}
}

func TestCalls(t *testing.T) {
	list := samples(250)
	for i, c := range calls() {
		for _, a := range list {
			for _, b := range list {
				check(t, c, i > 2, a, b)
			}
		}
	}
}

// A guess of a quotient's limb may be 1 or 2 too high: rests just below b, and a b that is just above a half.
func TestDivideGuesses(t *testing.T) {
	one := big.NewInt(1)
	for _, b := range samples(120)[3:] {
		for _, q := range samples(120)[3:] {
			if len(b.Limbs)+len(q.Limbs) > api.MaxLimbs {
				continue
			}
			v := new(big.Int).Mul(new(big.Int).Abs(value(b)), new(big.Int).Abs(value(q)))
			for _, a := range []*big.Int{new(big.Int).Sub(v, one), v, new(big.Int).Add(v, one)} {
				for _, c := range calls()[3:] {
					check(t, c, true, of(a), b)
				}
			}
		}
	}
}

func TestDivideSigns(t *testing.T) {
	for _, c := range []struct{ a, b, q, r, m int }{
		{7, 2, 3, 1, 1}, {-7, 2, -3, -1, 1}, {7, -2, -3, 1, -1}, {-7, -2, 3, -1, -1},
		{6, 2, 3, 0, 0}, {-6, 2, -3, 0, 0}, {6, -2, -3, 0, 0}, {0, 2, 0, 0, 0}, {0, -2, 0, 0, 0},
		{1, 2, 0, 1, 1}, {-1, 2, 0, -1, 1}, {1, -2, 0, 1, -1}, {-1, -2, 0, -1, -1},
	} {
		q, r, e := num.Divide(num.Of(c.a), num.Of(c.b))
		m, e2 := num.Modulo(num.Of(c.a), num.Of(c.b))
		if e != api.OK || e2 != api.OK || !same(q, num.Of(c.q)) || !same(r, num.Of(c.r)) || !same(m, num.Of(c.m)) {
			t.Errorf("%d by %d: %v, %v, %d; %v, %d", c.a, c.b, q, r, e, m, e2)
		}
	}
}

func TestLarge(t *testing.T) {
	top := api.Int{Limbs: append(make([]uint32, 63), 1)} // Base to the power 63
	half := api.Int{Limbs: append(make([]uint32, 32), 1)}
	for _, c := range []struct {
		name string
		call func(a, b api.Int) (api.Int, api.Errno)
		a, b api.Int
		e    api.Errno
	}{
		{"Add", num.Add, most(false), num.Of(1), api.ErrLarge},
		{"Add", num.Add, most(true), num.Of(-1), api.ErrLarge},
		{"Add", num.Add, most(false), num.Of(-1), api.OK},
		{"Add", num.Add, most(false), most(true), api.OK},
		{"Sub", num.Sub, most(false), num.Of(-1), api.ErrLarge},
		{"Sub", num.Sub, most(true), num.Of(1), api.ErrLarge},
		{"Sub", num.Sub, most(true), most(true), api.OK},
		{"Mul", num.Mul, most(false), num.Of(-1), api.OK},
		{"Mul", num.Mul, most(false), num.Of(2), api.ErrLarge},
		{"Mul", num.Mul, most(true), api.Int{}, api.OK},
		{"Mul", num.Mul, top, num.Of(api.Base - 1), api.OK},
		{"Mul", num.Mul, top, num.Of(api.Base), api.ErrLarge},
		{"Mul", num.Mul, half, half, api.ErrLarge},
		{"Mul", num.Mul, whole(false, api.Base-1, 32), whole(true, api.Base-1, 32), api.OK},
		{"Mul", num.Mul, most(false), most(false), api.ErrLarge},
	} {
		x, e := c.call(c.a, c.b)
		if e != c.e || e != api.OK && !same(x, api.Int{}) || !num.Sound(x) {
			t.Errorf("%s of %s and %s: %v, %d", c.name, num.Text(c.a), num.Text(c.b), x, e)
		}
	}
}

// ErrForm goes ahead of ErrZero and ErrLarge, and beside an error there is nothing.
func TestForm(t *testing.T) {
	for _, c := range calls() {
		for _, x := range unsound() {
			for _, a := range []api.Int{{}, num.Of(5), num.Of(-5), most(true), x} {
				if y, e := c.call(a, x); e != api.ErrForm || !same(y, api.Int{}) {
					t.Errorf("%s of %v and %v: %v, %d", c.name, a, x, y, e)
				}
				if y, e := c.call(x, a); e != api.ErrForm || !same(y, api.Int{}) {
					t.Errorf("%s of %v and %v: %v, %d", c.name, x, a, y, e)
				}
			}
		}
	}
}

// R4: what is handed in, and its spare room, is not changed, and what is answered shares no memory with it.
func TestMemory(t *testing.T) {
	guarded := func(x api.Int) (api.Int, func() bool) {
		n := len(x.Limbs)
		all := append(slices.Clone(x.Limbs), 11, 12, 13, 14)
		before := slices.Clone(all)
		return api.Int{Neg: x.Neg, Limbs: all[:n]}, func() bool { return slices.Equal(all, before) }
	}
	spoil := func(x api.Int) {
		for i := range x.Limbs[:cap(x.Limbs)] {
			x.Limbs[:cap(x.Limbs)][i] = 99
		}
	}
	list := append(samples(60), unsound()...)
	for _, p := range list {
		for _, q := range list {
			a, aWhole := guarded(p)
			b, bWhole := guarded(q)
			for _, c := range calls() {
				x, _ := c.call(a, b)
				spoil(x)
			}
			num.Text(a)
			num.Small(a)
			num.Cmp(a, b)
			if !aWhole() || !bWhole() {
				t.Fatalf("%v or %v was changed", p, q)
			}
			whole, rest, _ := num.Divide(a, b)
			text := fmt.Sprint(rest)
			spoil(whole)
			if fmt.Sprint(rest) != text {
				t.Fatalf("both answers of Divide of %v and %v share memory", a, b)
			}
		}
	}
}

// R5: the same call has the same answer, whatever was done to the one before.
func TestAgain(t *testing.T) {
	for range 2 {
		x := num.Of(math.MaxInt)
		y, _ := num.Parse("-1000000000")
		if num.Text(x) != "9223372036854775807" || num.Text(y) != "-1000000000" {
			t.Errorf("%v, %v", x, y)
		}
		clear(x.Limbs)
		clear(y.Limbs)
	}
}
