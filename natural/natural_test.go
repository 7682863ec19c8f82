package natural_test

import (
	"fmt"
	"math"
	"math/big"
	"slices"
	"strings"
	"testing"

	"recordlink/api"
	"recordlink/natural"
)

// most is the greatest digit.
const most = math.MaxUint32

// ones returns a number of n digits that are all the greatest one.
func ones(n int) api.Natural { return repeat(most, n) }

// repeat returns n equal digits.
func repeat(d uint32, n int) api.Natural {
	x := make(api.Natural, n)
	for i := range x {
		x[i] = d
	}
	return x
}

// join returns the digits of both, those of a first.
func join(a, b api.Natural) api.Natural { return append(slices.Clone(a), b...) }

// single returns the number of n digits of which the last one alone is not 0.
func single(n int, last uint32) api.Natural { return join(make(api.Natural, n-1), api.Natural{last}) }

// mixed returns a number of n digits that depend on a seed.
func mixed(n int, seed uint64) api.Natural {
	x := make(api.Natural, n)
	for i := range x {
		seed = seed*6364136223846793005 + 1442695040888963407
		x[i] = uint32(seed>>32) | 1
	}
	return x
}

// samples returns valid numbers of few and of many digits.
func samples() []api.Natural {
	list := []api.Natural{nil, {}, {1}, {2}, {3}, {10}, {1 << 31}, {1<<31 - 1}, {1<<31 + 1}, {most - 1}, {most}}
	for _, n := range []int{1, 2, 3, 4, 8, 31, 32, 33, 63, 64} {
		m := mixed(n, uint64(n))
		low, high := slices.Clone(m), slices.Clone(m)
		low[n-1], high[n-1] = 1, most
		list = append(list, m, low, high, mixed(n, 77), ones(n), single(n, 1), single(n, 1<<31), single(n, most), repeat(1, n), repeat(1<<31, n))
	}
	return list
}

// invalid returns numbers that are not valid: with zeros at their end, with too many digits, with both.
func invalid() []api.Natural {
	list := []api.Natural{{0}, {0, 0}, {1, 0}, {most, 0}, {0, 1, 0}, {1, 0, 0}, {0, 0, 5, 0, 0}, repeat(0, 63), repeat(0, 64), repeat(0, 65), repeat(0, 1000)}
	for _, n := range []int{62, 63, 64} {
		list = append(list, join(ones(n), api.Natural{0}), join(mixed(n, 5), api.Natural{0, 0}))
	}
	for _, n := range []int{65, 66, 128, 129, 1000} {
		list = append(list, ones(n), single(n, 1), join(ones(n), api.Natural{0}), join(api.Natural{1}, repeat(0, n)))
	}
	return list
}

// toBig returns a number, valid or not, as one of the standard library.
func toBig(n api.Natural) *big.Int {
	x := new(big.Int)
	for _, d := range slices.Backward(n) {
		x.Lsh(x, 32).Or(x, big.NewInt(int64(d)))
	}
	return x
}

// fromBig returns the digits of a number of the standard library.
func fromBig(x *big.Int) api.Natural {
	var n api.Natural
	for x = new(big.Int).Set(x); x.Sign() > 0; x.Rsh(x, 32) {
		n = append(n, uint32(new(big.Int).And(x, big.NewInt(most)).Int64()))
	}
	return n
}

// power returns 2^k as a number of the standard library.
func power(k uint) *big.Int { return new(big.Int).Lsh(big.NewInt(1), k) }

// short is the text of a number in the output of tests.
func short(n api.Natural) string {
	if len(n) <= 6 {
		return fmt.Sprintf("%x", []uint32(n))
	}
	return fmt.Sprintf("%x.. (%d digits)", []uint32(n[:6]), len(n))
}

// roomy returns a number whose memory goes on behind its digits, and that memory as it is.
func roomy(n api.Natural) (api.Natural, api.Natural) {
	all := join(n, repeat(0xabcdef, 200))
	return all[:len(n)], slices.Clone(all)
}

// expectSame checks that a number and the memory behind it are what they were before a call.
func expectSame(t *testing.T, what string, n, before api.Natural) {
	t.Helper()
	if !slices.Equal(n[:len(before)], before) {
		t.Errorf("%s changed what it was given, or the memory behind it, or keeps it", what)
	}
}

// spoil overwrites all memory of a result.
func spoil(n api.Natural) {
	for i := range n[:cap(n)] {
		n[:cap(n)][i] = 0x55555555
	}
}

// expectResult checks a result and an error.
func expectResult(t *testing.T, what string, got api.Natural, e api.Errno, want *big.Int, wantE api.Errno) {
	t.Helper()
	if wantE != api.OK {
		if e != wantE || len(got) != 0 {
			t.Errorf("%s is %s, %d, not the error %d", what, short(got), e, wantE)
		}
		return
	}
	if e != api.OK || !slices.Equal(got, fromBig(want)) {
		t.Errorf("%s is %s, %d, not %s", what, short(got), e, short(fromBig(want)))
	}
	if !natural.Valid(got) {
		t.Errorf("%s is not valid", what)
	}
}

// An operation is a function of two numbers with what it should return for valid ones.
type operation struct {
	name string
	do   func(a, b api.Natural) (api.Natural, api.Errno)
	want func(a, b *big.Int) (*big.Int, api.Errno)
}

// operations are the functions of two numbers; DivMod is there twice.
func operations() []operation {
	return []operation{
		{"Add", natural.Add, func(a, b *big.Int) (*big.Int, api.Errno) { return limited(new(big.Int).Add(a, b)) }},
		{"Sub", natural.Sub, func(a, b *big.Int) (*big.Int, api.Errno) {
			if a.Cmp(b) < 0 {
				return nil, api.ErrRange
			}
			return new(big.Int).Sub(a, b), api.OK
		}},
		{"Mul", natural.Mul, func(a, b *big.Int) (*big.Int, api.Errno) { return limited(new(big.Int).Mul(a, b)) }},
		{"GCD", natural.GCD, func(a, b *big.Int) (*big.Int, api.Errno) { return new(big.Int).GCD(nil, nil, a, b), api.OK }},
		{"the quotient of DivMod", quotient, func(a, b *big.Int) (*big.Int, api.Errno) {
			if b.Sign() == 0 {
				return nil, api.ErrZero
			}
			return new(big.Int).Quo(a, b), api.OK
		}},
		{"the remainder of DivMod", remainder, func(a, b *big.Int) (*big.Int, api.Errno) {
			if b.Sign() == 0 {
				return nil, api.ErrZero
			}
			return new(big.Int).Rem(a, b), api.OK
		}},
	}
}

// limited returns a number, or the error of one that has too many digits.
func limited(x *big.Int) (*big.Int, api.Errno) {
	if x.BitLen() > 32*api.MaxLimbs {
		return nil, api.ErrLimit
	}
	return x, api.OK
}

// quotient is the first result of DivMod.
func quotient(a, b api.Natural) (api.Natural, api.Errno) {
	q, r, e := natural.DivMod(a, b)
	spoil(r)
	return q, e
}

// remainder is the second result of DivMod.
func remainder(a, b api.Natural) (api.Natural, api.Errno) {
	q, r, e := natural.DivMod(a, b)
	spoil(q)
	return r, e
}

// named returns the operations with these names.
func named(names ...string) []operation {
	var list []operation
	for _, o := range operations() {
		for _, name := range names {
			if strings.HasSuffix(o.name, name) {
				list = append(list, o)
			}
		}
	}
	return list
}

// expectOperation checks an operation on two valid numbers, and that it neither changes nor keeps them.
func expectOperation(t *testing.T, o operation, a, b api.Natural) {
	t.Helper()
	what := fmt.Sprintf("%s of %s and %s", o.name, short(a), short(b))
	a, beforeA := roomy(a)
	b, beforeB := roomy(b)
	want, wantE := o.want(toBig(a), toBig(b))
	got, e := o.do(a, b)
	expectResult(t, what, got, e, want, wantE)
	spoil(got)
	expectSame(t, what, a, beforeA)
	expectSame(t, what, b, beforeB)
	got, _ = o.do(a, b)
	spoil(a)
	spoil(b)
	expectResult(t, what+", when these were changed later,", got, e, want, wantE)
}

// expectPairs checks operations on all couples of a list, in both orders.
func expectPairs(t *testing.T, list []operation, numbers []api.Natural) {
	t.Helper()
	for _, o := range list {
		for _, a := range numbers {
			for _, b := range numbers {
				expectOperation(t, o, a, b)
			}
		}
	}
}

// P10.1: at most api.MaxLimbs digits, and no zero at the end.
func TestValid(t *testing.T) {
	for n := range 200 {
		for _, x := range []api.Natural{ones(n), repeat(1, n), mixed(n, 1)} {
			if natural.Valid(x) != (n <= api.MaxLimbs) {
				t.Errorf("Valid of %d digits is %t", n, n > api.MaxLimbs)
			}
		}
		for zeros := 1; zeros < 4; zeros++ {
			if natural.Valid(join(ones(n), repeat(0, zeros))) {
				t.Errorf("%d digits and %d zeros are valid", n, zeros)
			}
			if natural.Valid(join(repeat(0, zeros), ones(n))) != (n > 0 && n+zeros <= api.MaxLimbs) {
				t.Errorf("%d zeros in front of %d digits", zeros, n)
			}
		}
	}
	if !natural.Valid(nil) || !natural.Valid(api.Natural{}) || natural.Valid(api.Natural{0}) {
		t.Error("zero has no digits, and nothing else is zero")
	}
	for _, x := range samples() {
		if !natural.Valid(x) {
			t.Errorf("%s is not valid", short(x))
		}
	}
	for _, x := range invalid() {
		before := slices.Clone(x)
		if natural.Valid(x) {
			t.Errorf("%s is valid", short(x))
		}
		expectSame(t, "Valid", x, before)
	}
}

// P10.1: ints with the digits that are written here.
func TestFromInt(t *testing.T) {
	rows := []struct {
		x    int
		want api.Natural
	}{
		{0, nil}, {1, api.Natural{1}}, {7, api.Natural{7}}, {1 << 31, api.Natural{1 << 31}},
		{1<<32 - 2, api.Natural{most - 1}}, {1<<32 - 1, api.Natural{most}}, {1 << 32, api.Natural{0, 1}}, {1<<32 + 1, api.Natural{1, 1}},
		{1<<33 - 1, api.Natural{most, 1}}, {5 << 32, api.Natural{0, 5}}, {0x123456789abcdef, api.Natural{0x89abcdef, 0x1234567}},
		{math.MaxInt - 1, api.Natural{most - 1, 1<<31 - 1}}, {math.MaxInt, api.Natural{most, 1<<31 - 1}},
	}
	for _, r := range rows {
		got, e := natural.FromInt(r.x)
		if !slices.Equal(got, r.want) || e != api.OK {
			t.Errorf("FromInt of %d is %x, %d", r.x, got, e)
		}
		if back, ok := natural.Int(got); back != r.x || !ok {
			t.Errorf("Int of FromInt of %d is %d, %t", r.x, back, ok)
		}
	}
	for _, x := range []int{-1, -2, -1 << 31, -1 << 32, -1<<32 - 1, math.MinInt + 1, math.MinInt} {
		if got, e := natural.FromInt(x); len(got) != 0 || e != api.ErrRange {
			t.Errorf("FromInt of %d is %x, %d", x, got, e)
		}
	}
	for k := range 63 {
		for x := 1<<k - 3; x <= 1<<k+3; x++ {
			got, e := natural.FromInt(x)
			if x < 0 {
				expectResult(t, fmt.Sprint("FromInt of ", x), got, e, nil, api.ErrRange)
				continue
			}
			expectResult(t, fmt.Sprint("FromInt of ", x), got, e, big.NewInt(int64(x)), api.OK)
		}
	}
	a, _ := natural.FromInt(5)
	b, _ := natural.FromInt(5)
	spoil(a)
	if !slices.Equal(b, api.Natural{5}) {
		t.Error("two results of FromInt share memory")
	}
}

// P10.1: numbers that just fit and that just do not.
func TestInt(t *testing.T) {
	rows := []struct {
		n    api.Natural
		want int
		ok   bool
	}{
		{nil, 0, true}, {api.Natural{}, 0, true}, {api.Natural{1}, 1, true}, {api.Natural{most}, 1<<32 - 1, true},
		{api.Natural{0, 1}, 1 << 32, true}, {api.Natural{3, 2}, 2<<32 + 3, true},
		{api.Natural{most - 1, 1<<31 - 1}, math.MaxInt - 1, true}, {api.Natural{most, 1<<31 - 1}, math.MaxInt, true},
		{api.Natural{0, 1<<31 - 1}, math.MaxInt - most, true},
		{api.Natural{0, 1 << 31}, 0, false}, {api.Natural{1, 1 << 31}, 0, false}, {api.Natural{most, 1 << 31}, 0, false},
		{api.Natural{0, most}, 0, false}, {api.Natural{most, most}, 0, false},
		{api.Natural{0, 0, 1}, 0, false}, {api.Natural{5, 0, 1}, 0, false}, {api.Natural{1, 2, 3}, 0, false}, {ones(3), 0, false},
		{single(4, 1), 0, false}, {ones(64), 0, false}, {single(64, 1), 0, false},
	}
	for _, n := range invalid() {
		rows = append(rows, struct {
			n    api.Natural
			want int
			ok   bool
		}{n, 0, false})
	}
	for _, r := range rows {
		n, before := roomy(r.n)
		if got, ok := natural.Int(n); got != r.want || ok != r.ok {
			t.Errorf("Int of %s is %d, %t", short(r.n), got, ok)
		}
		expectSame(t, "Int", n, before)
	}
}

// expectCompare checks a comparison in both directions.
func expectCompare(t *testing.T, a, b api.Natural, want int) {
	t.Helper()
	what := fmt.Sprintf("Compare of %s and %s", short(a), short(b))
	a, beforeA := roomy(a)
	b, beforeB := roomy(b)
	if got := natural.Compare(a, b); got != want {
		t.Errorf("%s is %d, not %d", what, got, want)
	}
	if got := natural.Compare(b, a); got != -want {
		t.Errorf("%s, exchanged, is %d, not %d", what, got, -want)
	}
	expectSame(t, what, a, beforeA)
	expectSame(t, what, b, beforeB)
}

// P10.1: numbers of one length that differ in one digit alone, and numbers of different lengths.
func TestCompare(t *testing.T) {
	for n := 1; n <= api.MaxLimbs; n++ {
		for i := range n {
			a := mixed(n, uint64(i))
			a[i] = 6
			b := slices.Clone(a)
			expectCompare(t, a, b, 0)
			b[i] = 7
			expectCompare(t, a, b, -1)
			b[i] = most
			expectCompare(t, a, b, -1)
			a[i], b[i] = 1<<31-1, 1<<31
			expectCompare(t, a, b, -1)
		}
		expectCompare(t, ones(n-1), single(n, 1), -1)
		expectCompare(t, nil, single(n, 1), -1)
	}
	// A digit nearer to the end outweighs all before it.
	expectCompare(t, api.Natural{most, most, 1}, api.Natural{0, 0, 2}, -1)
	expectCompare(t, api.Natural{most, 1, 9}, api.Natural{0, 2, 9}, -1)
	expectCompare(t, nil, api.Natural{}, 0)
	for _, a := range samples() {
		for _, b := range samples() {
			expectCompare(t, a, b, toBig(a).Cmp(toBig(b)))
		}
	}
}

// P10.1: zeros at the end do not count, and numbers with too many digits are compared like others.
func TestCompareInvalid(t *testing.T) {
	rows := []struct {
		a, b api.Natural
		want int
	}{
		{nil, api.Natural{0}, 0}, {api.Natural{0}, api.Natural{0, 0, 0}, 0}, {api.Natural{0, 0}, api.Natural{1}, -1},
		{api.Natural{5, 0}, api.Natural{5}, 0}, {api.Natural{5, 0, 0}, api.Natural{5, 0}, 0}, {api.Natural{5, 0, 0}, api.Natural{6}, -1},
		{api.Natural{most, 0, 0, 0}, api.Natural{0, 1}, -1}, {api.Natural{0, 1, 0}, api.Natural{0, 1}, 0},
		{api.Natural{0, 5}, api.Natural{5, 0}, 1}, {ones(64), ones(65), -1}, {ones(65), ones(65), 0}, {ones(999), single(1000, 1), -1},
		{join(ones(64), api.Natural{0}), ones(64), 0}, {join(ones(64), api.Natural{0}), single(65, 1), -1},
	}
	for _, r := range rows {
		expectCompare(t, r.a, r.b, r.want)
	}
	for _, a := range invalid() {
		for _, b := range append(invalid(), samples()...) {
			expectCompare(t, a, b, toBig(a).Cmp(toBig(b)))
		}
	}
}

// P10.2: all operations on couples of ordinary numbers and of those at the limit.
func TestOperations(t *testing.T) { expectPairs(t, operations(), samples()) }

// edges are digits at which carries, borrows and guesses go wrong.
var edges = []uint32{0, 1, 1<<31 - 1, 1 << 31, most - 1, most}

// small returns all valid numbers of at most n digits that are edges.
func small(n int) []api.Natural {
	list, longest := []api.Natural{nil}, []api.Natural{nil}
	for range n {
		var next []api.Natural
		for _, x := range longest {
			for _, d := range edges {
				next = append(next, join(x, api.Natural{d}))
			}
		}
		for _, x := range next {
			if x[len(x)-1] != 0 {
				list = append(list, x)
			}
		}
		longest = next
	}
	return list
}

// P10.2: all operations on all numbers of up to three digits that are edges.
func TestOperationsOnEdges(t *testing.T) { expectPairs(t, operations(), small(3)) }

// P10.2: numbers that are not valid, on either side, whatever else is wrong.
func TestOperationsOnInvalid(t *testing.T) {
	others := append(invalid(), nil, api.Natural{1}, api.Natural{0, 0, 1}, ones(64))
	for _, o := range operations() {
		for _, a := range invalid() {
			for _, b := range others {
				what := fmt.Sprintf("%s of %s and %s", o.name, short(a), short(b))
				a, beforeA := roomy(a)
				b, beforeB := roomy(b)
				got, e := o.do(a, b)
				expectResult(t, what, got, e, nil, api.ErrNumber)
				got, e = o.do(b, a)
				expectResult(t, what+", exchanged,", got, e, nil, api.ErrNumber)
				expectSame(t, what, a, beforeA)
				expectSame(t, what, b, beforeB)
			}
		}
	}
}

// expectDigits checks a result with digits that are written in a test.
func expectDigits(t *testing.T, what string, got api.Natural, e api.Errno, want api.Natural) {
	t.Helper()
	if !slices.Equal(got, want) || e != api.OK {
		t.Errorf("%s is %s, %d, not %s", what, short(got), e, short(want))
	}
}

// P10.2: sums, with a carry through all digits.
func TestAdd(t *testing.T) {
	rows := []struct{ a, b, want api.Natural }{
		{nil, nil, nil}, {nil, api.Natural{5}, api.Natural{5}}, {api.Natural{2}, api.Natural{3}, api.Natural{5}},
		{api.Natural{most}, api.Natural{1}, api.Natural{0, 1}}, {api.Natural{most}, api.Natural{most}, api.Natural{most - 1, 1}},
		{api.Natural{most, most}, api.Natural{1}, api.Natural{0, 0, 1}}, {api.Natural{1, 2, 3}, api.Natural{most, most}, api.Natural{0, 2, 4}},
		{api.Natural{most, 1}, api.Natural{1, 0, 9}, api.Natural{0, 2, 9}},
		{single(64, most-1), single(64, 1), single(64, most)}, {ones(63), api.Natural{1}, single(64, 1)},
	}
	for _, r := range rows {
		got, e := natural.Add(r.a, r.b)
		expectDigits(t, "the sum", got, e, r.want)
		got, e = natural.Add(r.b, r.a)
		expectDigits(t, "the sum, exchanged,", got, e, r.want)
	}
	for n := 1; n <= api.MaxLimbs; n++ {
		for _, b := range []api.Natural{{1}, ones(n), single(n, 1), single(n, most)} {
			for _, o := range named("Add") {
				expectOperation(t, o, ones(n), b)
				expectOperation(t, o, b, ones(n))
			}
		}
	}
	for _, b := range []api.Natural{{1}, {most}, single(64, 1), ones(64)} {
		got, e := natural.Add(ones(64), b)
		expectResult(t, "a sum of 65 digits", got, e, nil, api.ErrLimit)
	}
}

// P10.2: differences, with a borrow through all digits; a greater number cannot be subtracted.
func TestSub(t *testing.T) {
	rows := []struct{ a, b, want api.Natural }{
		{nil, nil, nil}, {api.Natural{5}, nil, api.Natural{5}}, {api.Natural{5}, api.Natural{3}, api.Natural{2}},
		{api.Natural{0, 1}, api.Natural{1}, api.Natural{most}}, {api.Natural{0, 0, 1}, api.Natural{1}, api.Natural{most, most}},
		{api.Natural{0, 0, 1}, api.Natural{most, most}, api.Natural{1}}, {api.Natural{3, 5, 7}, api.Natural{4, 5, 6}, api.Natural{most, most}},
		{api.Natural{1, 2, 3}, api.Natural{0, 2, 3}, api.Natural{1}}, {single(64, 1), api.Natural{1}, ones(63)}, {ones(64), ones(64), nil},
	}
	for _, r := range rows {
		got, e := natural.Sub(r.a, r.b)
		expectDigits(t, "the difference", got, e, r.want)
		if natural.Compare(r.a, r.b) > 0 {
			got, e = natural.Sub(r.b, r.a)
			expectResult(t, "the difference, exchanged,", got, e, nil, api.ErrRange)
		}
	}
	for n := 1; n <= api.MaxLimbs; n++ {
		for _, o := range named("Sub") {
			expectOperation(t, o, single(n, 1), api.Natural{1})
			expectOperation(t, o, single(n, 1), ones(n-1))
			expectOperation(t, o, single(n, 7), mixed(n-1, 3))
			expectOperation(t, o, mixed(n, 4), mixed(n, 4))
			expectOperation(t, o, ones(n-1), single(n, 1))
		}
	}
}

// P10.2: the example, and products of digits that are all the greatest one.
func TestMul(t *testing.T) {
	rows := []struct{ a, b, want api.Natural }{
		{api.Natural{most}, api.Natural{most}, api.Natural{1, most - 1}},
		{nil, nil, nil}, {nil, ones(64), nil}, {api.Natural{1}, ones(64), ones(64)}, {api.Natural{6}, api.Natural{7}, api.Natural{42}},
		{api.Natural{0, 1}, api.Natural{0, 0, 3}, api.Natural{0, 0, 0, 3}}, {api.Natural{most, most}, api.Natural{most, most}, api.Natural{1, 0, most - 1, most}},
		{single(32, 1), single(33, most), single(64, most)}, {api.Natural{0, 1}, ones(63), join(api.Natural{0}, ones(63))},
	}
	for _, r := range rows {
		got, e := natural.Mul(r.a, r.b)
		expectDigits(t, "the product", got, e, r.want)
		got, e = natural.Mul(r.b, r.a)
		expectDigits(t, "the product, exchanged,", got, e, r.want)
	}
	for n := range api.MaxLimbs + 1 {
		for _, o := range named("Mul") {
			for m := range api.MaxLimbs + 1 {
				expectOperation(t, o, ones(n), ones(m))
			}
			expectOperation(t, o, ones(n), nil)
			expectOperation(t, o, mixed(n, 2), api.Natural{1})
		}
	}
}

// P10.2: products of just 64 digits and just one more.
func TestMulLimit(t *testing.T) {
	rows := []struct {
		a, b api.Natural
		e    api.Errno
	}{
		{ones(32), ones(32), api.OK}, {ones(32), ones(33), api.ErrLimit}, {single(32, 1), single(33, 1), api.OK}, {single(33, 1), single(33, 1), api.ErrLimit},
		{single(64, 1<<31), api.Natural{2}, api.ErrLimit}, {single(64, 1<<31-1), api.Natural{2}, api.OK}, {ones(64), api.Natural{2}, api.ErrLimit},
		{ones(64), ones(64), api.ErrLimit}, {ones(64), api.Natural{1}, api.OK}, {ones(64), api.Natural{0, 1}, api.ErrLimit},
		{repeat(1, 64), api.Natural{most}, api.OK}, {repeat(1, 64), api.Natural{0, 1}, api.ErrLimit}, {ones(64), nil, api.OK},
	}
	for _, r := range rows {
		for _, o := range named("Mul") {
			expectOperation(t, o, r.a, r.b)
			expectOperation(t, o, r.b, r.a)
		}
		if _, e := natural.Mul(r.a, r.b); e != r.e {
			t.Errorf("Mul of %s and %s: %d, not %d", short(r.a), short(r.b), e, r.e)
		}
	}
}

// P10.2: quotients and remainders that are written here.
func TestDivMod(t *testing.T) {
	rows := []struct{ a, b, q, r api.Natural }{
		{nil, api.Natural{1}, nil, nil}, {api.Natural{7}, api.Natural{2}, api.Natural{3}, api.Natural{1}}, {api.Natural{6}, api.Natural{3}, api.Natural{2}, nil},
		{api.Natural{6}, api.Natural{7}, nil, api.Natural{6}}, {api.Natural{0, 1}, api.Natural{2}, api.Natural{1 << 31}, nil},
		{api.Natural{0, 0, 1}, api.Natural{most}, api.Natural{1, 1}, api.Natural{1}}, {api.Natural{5, 6, 7}, api.Natural{0, 1}, api.Natural{6, 7}, api.Natural{5}},
		{api.Natural{5, 6, 7}, api.Natural{0, 0, 1}, api.Natural{7}, api.Natural{5, 6}}, {api.Natural{most, most, most}, api.Natural{most, most}, api.Natural{0, 1}, api.Natural{most}},
		{api.Natural{3, 0, 1 << 31}, api.Natural{1, 0, 1 << 31}, api.Natural{1}, api.Natural{2}},
		{api.Natural{3, 0, 1 << 31}, api.Natural{1, 0, 1 << 29}, api.Natural{3}, api.Natural{0, 0, 1 << 29}},
		{api.Natural{0, 0, 1 << 31, 1<<31 - 1}, api.Natural{1, 0, 1 << 31}, api.Natural{most - 1}, api.Natural{2, most, 1<<31 - 1}},
		{api.Natural{0, most - 1, 1 << 31}, api.Natural{most, 1 << 31}, api.Natural{most}, api.Natural{most, 1<<31 - 1}},
		{ones(64), api.Natural{1}, ones(64), nil}, {ones(64), ones(64), api.Natural{1}, nil}, {ones(63), ones(64), nil, ones(63)},
	}
	for _, r := range rows {
		q, rest, e := natural.DivMod(r.a, r.b)
		expectDigits(t, fmt.Sprintf("the quotient of %s and %s", short(r.a), short(r.b)), q, e, r.q)
		expectDigits(t, fmt.Sprintf("the remainder of %s and %s", short(r.a), short(r.b)), rest, e, r.r)
	}
	for _, a := range append(samples(), small(2)...) {
		q, r, e := natural.DivMod(a, nil)
		if len(q) != 0 || len(r) != 0 || e != api.ErrZero {
			t.Errorf("DivMod of %s and 0: %d", short(a), e)
		}
	}
	for _, a := range invalid() {
		if q, r, e := natural.DivMod(a, api.Natural{}); len(q) != 0 || len(r) != 0 || e != api.ErrNumber {
			t.Errorf("DivMod of %s and 0: %d", short(a), e)
		}
	}
}

// P10.2: dividends and divisors of all numbers of digits, with last digits from 1 to the greatest one.
func TestDivModLengths(t *testing.T) {
	list := named("of DivMod")
	for n := 1; n <= api.MaxLimbs; n++ {
		for _, m := range []int{1, 2, 3, 5, 30, n - 1, n, n + 1, api.MaxLimbs} {
			if m < 1 || m > api.MaxLimbs {
				continue
			}
			for i, last := range []uint32{1, 2, 1<<31 - 1, 1 << 31, most - 1, most} {
				b := mixed(m, uint64(i))
				b[m-1] = last
				for _, o := range list {
					expectOperation(t, o, mixed(n, uint64(i+m)), b)
					expectOperation(t, o, ones(n), b)
					expectOperation(t, o, single(n, last), b)
					expectOperation(t, o, ones(n), single(m, last))
				}
			}
		}
	}
}

// P10.2: for divisors whose last digit is at least 2^31, a guess of a digit of the quotient by the last digits alone is at most 2 too great; numbers of all three kinds are divided here, also as parts of longer ones.
func TestDivModGuesses(t *testing.T) {
	kinds := map[int64]int{}
	list := named("of DivMod")
	for _, b := range small(3) {
		last := len(b) - 1
		if last < 1 || b[last] < 1<<31 {
			continue
		}
		for _, r := range small(last + 2) {
			if len(r) != last+2 || toBig(r).Cmp(new(big.Int).Lsh(toBig(b), 32)) >= 0 {
				continue
			}
			guess := min((uint64(r[last+1])<<32|uint64(r[last]))/uint64(b[last]), most)
			exact := new(big.Int).Quo(toBig(r), toBig(b)).Int64()
			kinds[int64(guess)-exact]++
			for _, o := range list {
				expectOperation(t, o, r, b)
				expectOperation(t, o, join(ones(2), r), b)
			}
		}
	}
	if len(kinds) != 3 || kinds[0] == 0 || kinds[1] == 0 || kinds[2] == 0 {
		t.Errorf("guesses that were too great: %v", kinds)
	}
}

// Consequence of P10.2: the quotient times the divisor plus the remainder is the number, and the remainder is less than the divisor.
func TestDivModTogether(t *testing.T) {
	for _, a := range samples() {
		for _, b := range samples() {
			q, r, e := natural.DivMod(a, b)
			if len(b) == 0 {
				continue
			}
			product, f := natural.Mul(q, b)
			sum, g := natural.Add(product, r)
			if e != api.OK || f != api.OK || g != api.OK || natural.Compare(sum, a) != 0 || natural.Compare(r, b) >= 0 {
				t.Errorf("DivMod of %s and %s: %s and %s, %d", short(a), short(b), short(q), short(r), e)
			}
		}
	}
}

// P10.2: both results of DivMod have memory of their own.
func TestDivModMemory(t *testing.T) {
	for _, a := range samples() {
		for _, b := range samples() {
			q, r, _ := natural.DivMod(a, b)
			want := slices.Clone(r)
			spoil(q)
			if !slices.Equal(r, want) {
				t.Errorf("DivMod of %s and %s: the remainder shares the memory of the quotient", short(a), short(b))
			}
			q, r, _ = natural.DivMod(a, b)
			want = slices.Clone(q)
			spoil(r)
			if !slices.Equal(q, want) {
				t.Errorf("DivMod of %s and %s: the quotient shares the memory of the remainder", short(a), short(b))
			}
		}
	}
}

// expectPower checks a power, and that the number is neither changed nor kept.
func expectPower(t *testing.T, a api.Natural, k int, want *big.Int, wantE api.Errno) {
	t.Helper()
	what := fmt.Sprintf("Power of %s and %d", short(a), k)
	a, before := roomy(a)
	got, e := natural.Power(a, k)
	expectResult(t, what, got, e, want, wantE)
	spoil(got)
	expectSame(t, what, a, before)
	got, e = natural.Power(a, k)
	spoil(a)
	expectResult(t, what+", when it was changed later,", got, e, want, wantE)
}

// P10.2: the powers of 0 and 1, for every exponent, and those of other numbers until they have too many digits, and then up to the greatest exponent.
func TestPower(t *testing.T) {
	for k := range 4097 {
		zero := big.NewInt(0)
		if k == 0 {
			zero = big.NewInt(1)
		}
		expectPower(t, nil, k, zero, api.OK)
		expectPower(t, api.Natural{1}, k, big.NewInt(1), api.OK)
		want, wantE := limited(power(uint(k)))
		expectPower(t, api.Natural{2}, k, want, wantE)
	}
	bases := []api.Natural{{3}, {10}, {65535}, {65536}, {1 << 31}, {most}, {0, 1}, {1, 1}, {most, most}, single(3, 5), ones(8), single(9, 1), ones(21), ones(22), single(22, 1), ones(32), single(32, 1), single(33, 1), ones(33), ones(63), single(64, 1), ones(64)}
	for _, a := range bases {
		k, want := 0, big.NewInt(1)
		for ; want.BitLen() <= 32*api.MaxLimbs; k++ {
			expectPower(t, a, k, want, api.OK)
			want.Mul(want, toBig(a))
		}
		for _, more := range []int{k, k + 1, 2 * k, 2048, 4095, 4096} {
			expectPower(t, a, max(k, more), nil, api.ErrLimit)
		}
	}
}

// P10.2: powers of just 64 digits and just one more.
func TestPowerLimit(t *testing.T) {
	rows := []struct {
		a    api.Natural
		k    int
		want api.Natural
	}{
		{api.Natural{2}, 2047, single(64, 1<<31)}, {api.Natural{4}, 1023, single(64, 1<<30)}, {api.Natural{1 << 31}, 66, single(64, 1<<30)},
		{api.Natural{0, 1}, 63, single(64, 1)}, {single(22, 1), 3, single(64, 1)}, {single(32, most), 2, join(single(63, 1), api.Natural{most - 1})},
		{ones(64), 1, ones(64)}, {ones(64), 0, api.Natural{1}}, {api.Natural{1}, 4096, api.Natural{1}}, {nil, 4096, nil}, {nil, 0, api.Natural{1}},
	}
	for _, r := range rows {
		got, e := natural.Power(r.a, r.k)
		expectDigits(t, fmt.Sprintf("the power %d of %s", r.k, short(r.a)), got, e, r.want)
	}
	for _, r := range []struct {
		a api.Natural
		k int
	}{{api.Natural{2}, 2048}, {api.Natural{4}, 1024}, {api.Natural{0, 1}, 64}, {api.Natural{most}, 65}, {single(22, 1), 4}, {single(33, 1), 2}, {ones(64), 2}, {ones(64), 4096}, {api.Natural{2}, 4096}} {
		got, e := natural.Power(r.a, r.k)
		expectResult(t, fmt.Sprintf("the power %d of %s", r.k, short(r.a)), got, e, nil, api.ErrLimit)
	}
}

// P10.2: a number that is not valid comes before an exponent that is out of its range, and this before the limit.
func TestPowerErrors(t *testing.T) {
	far := []int{math.MinInt, math.MinInt32, -4096, -2, -1, 4097, 4098, 8192, 1 << 32, math.MaxInt}
	for _, a := range samples() {
		for _, k := range far {
			expectPower(t, a, k, nil, api.ErrRange)
		}
	}
	for _, a := range invalid() {
		for _, k := range append([]int{0, 1, 2, 4096}, far...) {
			expectPower(t, a, k, nil, api.ErrNumber)
		}
	}
}

// P10.2: greatest common divisors: of zeros, of equal numbers, of powers of two, and with a common factor of several digits.
func TestGCD(t *testing.T) {
	rows := []struct{ a, b, want api.Natural }{
		{nil, nil, nil}, {nil, api.Natural{5}, api.Natural{5}}, {nil, ones(64), ones(64)}, {api.Natural{1}, ones(64), api.Natural{1}},
		{api.Natural{12}, api.Natural{18}, api.Natural{6}}, {api.Natural{17}, api.Natural{5}, api.Natural{1}}, {api.Natural{7, 8, 9}, api.Natural{7, 8, 9}, api.Natural{7, 8, 9}},
		{single(64, 1), api.Natural{1 << 31}, api.Natural{1 << 31}}, {single(64, 1), single(33, 4), single(33, 4)}, {ones(64), ones(32), ones(32)}, {ones(64), ones(48), ones(16)},
	}
	for _, r := range rows {
		got, e := natural.GCD(r.a, r.b)
		expectDigits(t, "the greatest common divisor", got, e, r.want)
		got, e = natural.GCD(r.b, r.a)
		expectDigits(t, "the greatest common divisor, exchanged,", got, e, r.want)
	}
	var numbers []api.Natural
	for k := uint(0); k < 2048; k += 89 {
		numbers = append(numbers, fromBig(power(k)))
	}
	common := toBig(mixed(7, 1))
	for _, n := range []int{1, 2, 5, 40, 57} {
		numbers = append(numbers, fromBig(common), fromBig(new(big.Int).Mul(common, toBig(mixed(n, 8)))))
	}
	expectPairs(t, named("GCD"), numbers)
}

// P10.2: neighbours in Fibonacci's sequence have the longest way to their greatest common divisor.
func TestGCDOfFibonacci(t *testing.T) {
	a, b := big.NewInt(0), big.NewInt(1)
	for next := big.NewInt(1); next.BitLen() <= 32*api.MaxLimbs; next = new(big.Int).Add(a, b) {
		a, b = b, next
	}
	for _, o := range named("GCD") {
		expectOperation(t, o, fromBig(a), fromBig(b))
		expectOperation(t, o, fromBig(b), fromBig(a))
	}
}

// expectText checks the text of a valid number.
func expectText(t *testing.T, n api.Natural, want string) {
	t.Helper()
	n, before := roomy(n)
	if got, e := natural.Text(n); got != want || e != api.OK {
		t.Errorf("Text of %s is %q, %d, not %q", short(n), got, e, want)
	}
	expectSame(t, "Text", n, before)
}

// P10.3: the example, and other numbers that are written here.
func TestText(t *testing.T) {
	rows := []struct {
		n    api.Natural
		want string
	}{
		{nil, "0"}, {api.Natural{}, "0"}, {api.Natural{7}, "7"}, {api.Natural{9}, "9"}, {api.Natural{10}, "10"}, {api.Natural{100}, "100"},
		{api.Natural{1000000000}, "1000000000"}, {api.Natural{1000000007}, "1000000007"}, {api.Natural{most}, "4294967295"}, {api.Natural{0, 1}, "4294967296"},
		{api.Natural{most, most}, "18446744073709551615"}, {api.Natural{0, 0, 1}, "18446744073709551616"},
		{api.Natural{0x89e80001, 0x8ac72304}, "10000000000000000001"}, {single(5, 1), "340282366920938463463374607431768211456"},
	}
	for _, r := range rows {
		expectText(t, r.n, r.want)
	}
}

// P10.3: powers of ten and their neighbours, all numbers of samples, and numbers of api.MaxLimbs digits.
func TestTextOfMany(t *testing.T) {
	ten, one := big.NewInt(1), big.NewInt(1)
	for k := 0; ten.BitLen() <= 32*api.MaxLimbs; k++ {
		expectText(t, fromBig(ten), "1"+strings.Repeat("0", k))
		if k > 0 {
			expectText(t, fromBig(new(big.Int).Sub(ten, one)), strings.Repeat("9", k))
			expectText(t, fromBig(new(big.Int).Add(ten, one)), "1"+strings.Repeat("0", k-1)+"1")
		}
		ten.Mul(ten, big.NewInt(10))
	}
	for _, n := range append(samples(), small(3)...) {
		expectText(t, n, toBig(n).Text(10))
	}
	for k := range 1 << 16 {
		n, _ := natural.FromInt(k)
		expectText(t, n, big.NewInt(int64(k)).Text(10))
	}
}

// P10.3: numbers that are not valid have no text.
func TestTextErrors(t *testing.T) {
	for _, n := range invalid() {
		before := slices.Clone(n)
		if s, e := natural.Text(n); s != "" || e != api.ErrNumber {
			t.Errorf("Text of %s, which is not valid, is %q, %d", short(n), s, e)
		}
		expectSame(t, "Text", n, before)
	}
}
