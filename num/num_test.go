package num

import (
	"math"
	"math/big"
	"math/rand"
	"regexp"
	"strconv"
	"strings"
	"testing"
	"unsafe"

	"doublet/api"
)

var numberText = regexp.MustCompile(`\A-?(0|[1-9][0-9]*)(\.[0-9]+)?([eE][+-]?[0-9]+)?\z`)

func zeros(k int) string { return strings.Repeat("0", k) }
func ones(k int) string  { return strings.Repeat("1", k) }
func nines(k int) string { return strings.Repeat("9", k) }

func wantNum(t *testing.T, s string, want api.Num) {
	t.Helper()
	if n, err := Parse(s); err != nil || n != want {
		t.Errorf("Parse(%.80q) = %+v, %v; want %+v", s, n, err, want)
	}
}

func wantErr(t *testing.T, s string, want api.Code) {
	t.Helper()
	n, err := Parse(s)
	if c, ok := err.(api.Code); !ok || c != want || n != (api.Num{}) {
		t.Errorf("Parse(%.80q) = %+v, %v; want the Code %v itself, and no number", s, n, err, want)
	}
}

func mustParse(t *testing.T, s string) api.Num {
	t.Helper()
	n, err := Parse(s)
	if err != nil {
		t.Fatalf("Parse(%.80q): %v", s, err)
	}
	return n
}

// mayBe is what the chapter says of numbers that may be.
func mayBe(n api.Num) bool {
	if n.Digits == "" {
		return n == api.Num{}
	}
	k := len(n.Digits)
	return k <= 60 && strings.Trim(n.Digits, "0123456789") == "" &&
		n.Digits[0] != '0' && n.Digits[k-1] != '0' && -1000 <= n.Exp && n.Exp <= 1000
}

func ratOf(t *testing.T, s string) *big.Rat {
	t.Helper()
	r, ok := new(big.Rat).SetString(s)
	if !ok {
		t.Fatalf("no rational: %q", s)
	}
	return r
}

// ratOfNum works a number's worth out by its definition, without Show.
func ratOfNum(t *testing.T, n api.Num) *big.Rat {
	t.Helper()
	if n.Digits == "" {
		return new(big.Rat)
	}
	r := ratOf(t, n.Digits)
	power := new(big.Int).Exp(big.NewInt(10), big.NewInt(int64(max(n.Exp, -n.Exp))), nil)
	if n.Exp < 0 {
		r.Quo(r, new(big.Rat).SetInt(power))
	} else {
		r.Mul(r, new(big.Rat).SetInt(power))
	}
	if n.Neg {
		r.Neg(r)
	}
	return r
}

// P1.1, Parse: ordinary texts.
func TestParseOrdinary(t *testing.T) {
	wantNum(t, "1", api.Num{Digits: "1"})
	wantNum(t, "-1", api.Num{Neg: true, Digits: "1"})
	wantNum(t, "42", api.Num{Digits: "42"})
	wantNum(t, "3.25", api.Num{Digits: "325", Exp: -2})
	wantNum(t, "-0.150", api.Num{Neg: true, Digits: "15", Exp: -2})
	wantNum(t, "6e3", api.Num{Digits: "6", Exp: 3})
	wantNum(t, "6E3", api.Num{Digits: "6", Exp: 3})
	wantNum(t, "6e+3", api.Num{Digits: "6", Exp: 3})
	wantNum(t, "6E-3", api.Num{Digits: "6", Exp: -3})
	wantNum(t, "12.5e1", api.Num{Digits: "125"})
	wantNum(t, "-12.5e-10", api.Num{Neg: true, Digits: "125", Exp: -11})
	wantNum(t, "1e0", api.Num{Digits: "1"})
	wantNum(t, "1e-0", api.Num{Digits: "1"})
}

// P1.1, Parse: 0 has one number, whatever its text.
func TestParseZero(t *testing.T) {
	for _, s := range []string{
		"0", "-0", "0.0", "-0.0", "0e0", "0E+5", "0e-5", "-0.000e-7", "0.000e99",
		"0e1001", "0e-1001", "-0E99999999999999999999", "0.0e-99999999999999999999",
		"0." + zeros(5000), "0e" + nines(5000), "-0." + zeros(100) + "e-" + nines(100),
	} {
		wantNum(t, s, api.Num{})
	}
}

// P1.1, Parse: 0s at either end of the digits count for nothing.
func TestParseZerosAtEnds(t *testing.T) {
	wantNum(t, "100", api.Num{Digits: "1", Exp: 2})
	wantNum(t, "1010", api.Num{Digits: "101", Exp: 1})
	wantNum(t, "1.0", api.Num{Digits: "1"})
	wantNum(t, "10.0", api.Num{Digits: "1", Exp: 1})
	wantNum(t, "10.010", api.Num{Digits: "1001", Exp: -2})
	wantNum(t, "0.0012", api.Num{Digits: "12", Exp: -4})
	wantNum(t, "0.00120e4", api.Num{Digits: "12"})
	wantNum(t, "0.1e1", api.Num{Digits: "1"})
	wantNum(t, "1000e-3", api.Num{Digits: "1"})
	wantNum(t, "0."+zeros(300)+"70"+zeros(300), api.Num{Digits: "7", Exp: -301})
	wantNum(t, "20"+zeros(300)+"."+zeros(300), api.Num{Digits: "2", Exp: 301})
}

// P1.1, Parse: 1 to 60 digits may be, 61 may not.
func TestParseDigits(t *testing.T) {
	for k := 1; k <= 60; k++ {
		wantNum(t, ones(k), api.Num{Digits: ones(k)})
		wantNum(t, "-"+ones(k)+zeros(70), api.Num{Neg: true, Digits: ones(k), Exp: 70})
		wantNum(t, "0."+zeros(70)+ones(k), api.Num{Digits: ones(k), Exp: -70 - k})
	}
	wantNum(t, "1."+ones(59)+zeros(100), api.Num{Digits: ones(60), Exp: -59})
	wantNum(t, "1"+zeros(58)+"1", api.Num{Digits: "1" + zeros(58) + "1"})
	for k := 61; k <= 200; k++ {
		wantErr(t, ones(k), api.ErrLarge)
		wantErr(t, "-1."+ones(k-1), api.ErrLarge)
		wantErr(t, "0."+zeros(9)+ones(k)+zeros(9), api.ErrLarge)
	}
	wantErr(t, "1"+zeros(59)+"1", api.ErrLarge)
	wantErr(t, "1"+zeros(59)+".1", api.ErrLarge)
	wantErr(t, ones(61)+"e-20", api.ErrLarge)
}

// P1.1, Parse: the exponent of the digits, not that of the text, is -1000 to 1000.
func TestParseExponent(t *testing.T) {
	for e := -1000; e <= 1000; e++ {
		wantNum(t, "3e"+strconv.Itoa(e), api.Num{Digits: "3", Exp: e})
	}
	wantNum(t, "10e999", api.Num{Digits: "1", Exp: 1000})
	wantNum(t, "10e-1001", api.Num{Digits: "1", Exp: -1000})
	wantNum(t, "0.1e1001", api.Num{Digits: "1", Exp: 1000})
	wantNum(t, "1.5e-999", api.Num{Digits: "15", Exp: -1000})
	wantNum(t, "1.5e1001", api.Num{Digits: "15", Exp: 1000})
	wantNum(t, ones(60)+"e1000", api.Num{Digits: ones(60), Exp: 1000})
	wantNum(t, "1"+zeros(1000), api.Num{Digits: "1", Exp: 1000})
	wantNum(t, "0."+zeros(999)+"1", api.Num{Digits: "1", Exp: -1000})
	wantNum(t, "0."+zeros(4999)+"1e5000", api.Num{Digits: "1"})
	wantNum(t, "1"+zeros(5000)+"e-5000", api.Num{Digits: "1"})
	for _, s := range []string{
		"1e1001", "1e-1001", "-1e1001", "-1e-1001", "10e1000", "0.1e-1000", "1.5e-1000",
		"1.5e1002", "1" + zeros(1001), "0." + zeros(1000) + "1", "1" + zeros(5000) + "e-3999",
		"0." + zeros(4999) + "1e3999", "1e2147483648", "1e-2147483649", "1e4294967296",
		"1e9223372036854775807", "1e-9223372036854775808", "1e18446744073709551616",
	} {
		wantErr(t, s, api.ErrLarge)
	}
}

// P1.1, Parse: exponents of twenty digits and more.
func TestParseLongExponent(t *testing.T) {
	for k := 20; k <= 300; k++ {
		for _, mark := range []string{"e", "E", "e+", "E-", "e-"} {
			wantErr(t, "1"+mark+nines(k), api.ErrLarge)
			wantErr(t, "-25.5"+mark+"1"+zeros(k-1), api.ErrLarge)
			wantErr(t, "7"+mark+zeros(30)+nines(k), api.ErrLarge)
			wantErr(t, "1x"+mark+nines(k), api.ErrForm)
			wantErr(t, "1"+mark+nines(k)+"x", api.ErrForm)
		}
		wantNum(t, "1e"+zeros(k)+"7", api.Num{Digits: "1", Exp: 7})
		wantNum(t, "1E-"+zeros(k)+"1000", api.Num{Digits: "1", Exp: -1000})
		wantNum(t, "1e+"+zeros(k), api.Num{Digits: "1"})
	}
	// 2^64 + 5: an exponent that wraps round would be 5.
	wantErr(t, "1e18446744073709551621", api.ErrLarge)
	wantErr(t, "1e340282366920938463463374607431768211461", api.ErrLarge)
}

// P1.1, Parse: texts that are no number's, also where they would be too large.
func TestParseForm(t *testing.T) {
	for _, s := range []string{
		"", "-", "+", ".", "e", "E", "+1", "--1", "-+1", "00", "01", "-01", "00.5", "-00", "0123",
		"1.", "-1.", ".5", "-.5", "1.e5", "0.e1", "1..5", "1.5.5", "1.-5", "1. 5",
		"1e", "1E", "1e+", "1e-", "1e+-5", "1e-+5", "1e--5", "1ee5", "1eE5", "1e5e5", "1e5.", "1e5.0",
		"1e.5", "e5", "-e5", ".e5", "0x1", "0b1", "1_000", "1,5", "1f", "1-", "1+", "1-1",
		" 1", "1 ", "\t1", "1\n", "1\r\n", "- 1", "1e 5", "1 e5", "1\x00", "\x001",
		"NaN", "nan", "Inf", "-Infinity", "inf", "null", "true", "\"1\"", "[1]",
		"\u0661", "1\u0660", "\uff11", "\xff", "1\xff", "\u22121", "1\u00a0",
		"01e99999999999999999999", "1.e99999999999999999999", ones(61) + ".", ones(61) + "e", ones(61) + " ",
		"1e99999999999999999999.", "0" + ones(61), zeros(2000),
	} {
		wantErr(t, s, api.ErrForm)
	}
}

// P1.1, Parse: every short text, against RFC 8259's grammar and exact rationals.
func TestParseAllShort(t *testing.T) {
	signs := "-+.eE0159 x"
	var all func(s string, left int)
	all = func(s string, left int) {
		checkText(t, s)
		for i := 0; left > 0 && i < len(signs); i++ {
			all(s+signs[i:i+1], left-1)
		}
	}
	all("", 5)
}

func checkText(t *testing.T, s string) {
	t.Helper()
	if !numberText.MatchString(s) {
		wantErr(t, s, api.ErrForm)
		return
	}
	n, err := Parse(s)
	if err != nil || !mayBe(n) {
		t.Errorf("Parse(%q) = %+v, %v", s, n, err)
		return
	}
	r := ratOf(t, s)
	if ratOfNum(t, n).Cmp(r) != 0 || Whole(n) != r.IsInt() {
		t.Errorf("Parse(%q) = %+v, Whole %v", s, n, Whole(n))
	}
	if back, err := Parse(Show(n)); err != nil || back != n {
		t.Errorf("Parse(Show(%q)) = %+v, %v", s, back, err)
	}
}

// P1.1, Parse: ErrForm where a text is cut short or has a byte more.
func TestParseOneByteOff(t *testing.T) {
	for _, s := range []string{"-120.50e+30", "0.5E-7", "-0", "1e5"} {
		for i := 0; i <= len(s); i++ {
			checkText(t, s[:i])
			for b := 0; b < 256; b++ {
				c := string([]byte{byte(b)})
				checkText(t, s[:i]+c+s[i:])
				if i < len(s) {
					checkText(t, s[:i]+c+s[i+1:])
				}
			}
		}
	}
}

// randomText has 0s at both ends, a point and an exponent, often near the limits.
func randomText(r *rand.Rand) string {
	var b strings.Builder
	if r.Intn(2) == 0 {
		b.WriteByte('-')
	}
	digits := []byte(zeros(r.Intn(3)))
	for range 1 + r.Intn(80) {
		digits = append(digits, byte('0'+r.Intn(10)*r.Intn(2)))
	}
	digits = append(digits, zeros(r.Intn(40))...)
	point := r.Intn(len(digits) + 1)
	whole := strings.TrimLeft(string(digits[:point]), "0")
	if whole == "" {
		whole = "0"
	}
	b.WriteString(whole)
	if point < len(digits) {
		b.WriteByte('.')
		b.Write(digits[point:])
	}
	if r.Intn(3) > 0 {
		e := r.Intn(3000) - 1500
		b.WriteString([]string{"e", "E"}[r.Intn(2)])
		if e >= 0 && r.Intn(2) == 0 {
			b.WriteByte('+')
		}
		b.WriteString(strconv.Itoa(e))
	}
	return b.String()
}

// wantRandom tells by rationals alone whether the number of s may be.
func wantRandom(t *testing.T, s string) bool {
	t.Helper()
	r := ratOf(t, s)
	if r.Sign() == 0 {
		return true
	}
	ten := big.NewInt(10)
	scale := new(big.Int).Exp(ten, big.NewInt(2000), nil)
	i := new(big.Rat).Mul(r, new(big.Rat).SetInt(scale)).Num()
	text := strings.TrimPrefix(i.String(), "-")
	short := strings.TrimRight(text, "0")
	exp := len(text) - len(short) - 2000
	return len(short) <= 60 && -1000 <= exp && exp <= 1000
}

// P1.1 and P1.2: long texts against exact rationals.
func TestRandomTexts(t *testing.T) {
	r := rand.New(rand.NewSource(1))
	var before api.Num
	met := map[bool]int{}
	for range 3000 {
		s := randomText(r)
		may := wantRandom(t, s)
		met[may]++
		if !may {
			wantErr(t, s, api.ErrLarge)
			continue
		}
		checkText(t, s)
		n := mustParse(t, s)
		if want := ratOfNum(t, n).Cmp(ratOfNum(t, before)); Cmp(n, before) != want || Cmp(before, n) != -want {
			t.Errorf("Cmp(%+v, %+v) = %d, want %d", n, before, Cmp(n, before), want)
		}
		before = n
	}
	if met[true] < 500 || met[false] < 500 {
		t.Error("too few of one kind:", met)
	}
}

// P1.1, Show: canonical texts.
func TestShow(t *testing.T) {
	for want, n := range map[string]api.Num{
		"0":                 {},
		"7":                 {Digits: "7"},
		"-7":                {Neg: true, Digits: "7"},
		"-15e-2":            {Neg: true, Digits: "15", Exp: -2},
		"1e2":               {Digits: "1", Exp: 2},
		"101":               {Digits: "101"},
		"1e1000":            {Digits: "1", Exp: 1000},
		"-1e-1000":          {Neg: true, Digits: "1", Exp: -1000},
		ones(60) + "e-1000": {Digits: ones(60), Exp: -1000},
	} {
		if got := Show(n); got != want {
			t.Errorf("Show(%+v) = %q, want %q", n, got, want)
		}
	}
	for s, want := range map[string]string{
		"-0.150": "-15e-2", "-0": "0", "0.0e9": "0", "1.0": "1", "100": "1e2", "12.5E+3": "125e2", "0.001": "1e-3",
	} {
		if got := Show(mustParse(t, s)); got != want {
			t.Errorf("Show of %q = %q, want %q", s, got, want)
		}
	}
}

// edgeNumbers rise, and hold the edges of digits, exponents and signs.
func edgeNumbers() []api.Num {
	sizes := []api.Num{
		{Digits: "1", Exp: -1000}, {Digits: "15", Exp: -1000}, {Digits: "2", Exp: -999},
		{Digits: ones(60), Exp: -1000}, {Digits: nines(60), Exp: -1000},
		{Digits: "1", Exp: -1}, {Digits: "11", Exp: -2}, {Digits: "5", Exp: -1}, {Digits: "99", Exp: -2},
		{Digits: "1"}, {Digits: "1" + zeros(58) + "1", Exp: -59}, {Digits: "11", Exp: -1}, {Digits: "15", Exp: -1},
		{Digits: "2"}, {Digits: "9"}, {Digits: "99", Exp: -1}, {Digits: "1", Exp: 1}, {Digits: "11"}, {Digits: "12"},
		{Digits: "2", Exp: 1}, {Digits: "99"}, {Digits: "1", Exp: 2}, {Digits: "101"}, {Digits: "11", Exp: 1},
		{Digits: nines(60)}, {Digits: "1", Exp: 60}, {Digits: "9", Exp: 999},
		{Digits: "1", Exp: 1000}, {Digits: "11", Exp: 999}, {Digits: "9", Exp: 1000}, {Digits: "11", Exp: 1000},
		{Digits: ones(59), Exp: 1000}, {Digits: ones(60), Exp: 1000}, {Digits: nines(60), Exp: 1000},
	}
	var l []api.Num
	for i := len(sizes) - 1; i >= 0; i-- {
		n := sizes[i]
		n.Neg = true
		l = append(l, n)
	}
	l = append(l, api.Num{})
	return append(l, sizes...)
}

// P1.1, Cmp, and P1.2: it orders numbers.
func TestCmp(t *testing.T) {
	l := edgeNumbers()
	for i, a := range l {
		if !mayBe(a) {
			t.Fatalf("%+v may not be", a)
		}
		for k, b := range l {
			want := 0
			if i < k {
				want = -1
			}
			if i > k {
				want = 1
			}
			if got := Cmp(a, b); got != want {
				t.Errorf("Cmp(%s, %s) = %d, want %d", Show(a), Show(b), got, want)
			}
			if exact := ratOfNum(t, a).Cmp(ratOfNum(t, b)); exact != want {
				t.Fatalf("the list doesn't rise at %s, %s", Show(a), Show(b))
			}
		}
	}
}

// P1.2: what is shown is parsed.
func TestShownIsParsed(t *testing.T) {
	for _, n := range edgeNumbers() {
		wantNum(t, Show(n), n)
	}
	for k := 1; k <= 60; k++ {
		for _, e := range []int{-1000, -999, -60, -1, 0, 1, 60, 999, 1000} {
			n := api.Num{Neg: k%2 == 0, Digits: nines(k), Exp: e}
			wantNum(t, Show(n), n)
		}
	}
}

// P1.2: 1.0 is 1, and likewise texts of one number.
func TestOneNumberManyTexts(t *testing.T) {
	for _, l := range [][]string{
		{"1", "1.0", "1.000", "1e0", "10e-1", "0.1e1", "1E+0", "100e-2", "1e-00"},
		{"-1", "-1.0", "-10e-1", "-0.01e2"},
		{"0", "-0", "0.0", "0e5", "-0e-5"},
		{"1200", "1.2e3", "12e2", "1200.00", "120000e-2"},
		{"0.5", "5e-1", "0.50", "50e-2", "0.05E1"},
	} {
		first := mustParse(t, l[0])
		for _, s := range l {
			n := mustParse(t, s)
			if n != first || Cmp(n, first) != 0 || Show(n) != Show(first) {
				t.Errorf("%q is %+v, %q is %+v", s, n, l[0], first)
			}
		}
	}
}

// P1.1, Whole.
func TestWhole(t *testing.T) {
	for _, n := range edgeNumbers() {
		if got, want := Whole(n), ratOfNum(t, n).IsInt(); got != want {
			t.Errorf("Whole(%s) = %v", Show(n), got)
		}
	}
	for s, want := range map[string]bool{
		"0": true, "-0.0": true, "0e-9": true, "1": true, "-7": true, "10": true, "1.0": true, "1e1000": true,
		"15e-1": false, "150e-1": true, "0.1": false, "-0.5": false, "1e-1000": false, "2.50e1": true, "2.55e1": false,
	} {
		if got := Whole(mustParse(t, s)); got != want {
			t.Errorf("Whole of %q = %v", s, got)
		}
	}
}

// P1.1, Of.
func TestOf(t *testing.T) {
	for k, want := range map[int]api.Num{
		0: {}, 1: {Digits: "1"}, -1: {Neg: true, Digits: "1"}, 7: {Digits: "7"}, 10: {Digits: "1", Exp: 1},
		120: {Digits: "12", Exp: 1}, -500: {Neg: true, Digits: "5", Exp: 2}, 101: {Digits: "101"},
		3000: {Digits: "3", Exp: 3}, math.MaxInt64: {Digits: "9223372036854775807"},
		math.MinInt64: {Neg: true, Digits: "9223372036854775808"}, 1e18: {Digits: "1", Exp: 18},
	} {
		if got := Of(k); got != want {
			t.Errorf("Of(%d) = %+v, want %+v", k, got, want)
		}
	}
	for k := -2500; k <= 2500; k++ {
		n := Of(k)
		if !mayBe(n) || !Whole(n) || ratOfNum(t, n).Cmp(new(big.Rat).SetInt64(int64(k))) != 0 {
			t.Errorf("Of(%d) = %+v", k, n)
		}
		if Cmp(Of(k-1), n) != -1 || Cmp(n, Of(k-1)) != 1 {
			t.Errorf("Cmp of %d and %d", k-1, k)
		}
	}
}

func share(a, b string) bool {
	from, to := uintptr(unsafe.Pointer(unsafe.StringData(a))), uintptr(unsafe.Pointer(unsafe.StringData(b)))
	return from < to+uintptr(len(b)) && to < from+uintptr(len(a))
}

// R2: what is told shares no memory with what is handed in.
func TestNewMemory(t *testing.T) {
	for _, s := range []string{"7", "123", "-123", "100", "0.5", "12.5e3", ones(60), "1e" + zeros(500)} {
		s = strings.Clone(s)
		n := mustParse(t, s)
		if share(n.Digits, s) {
			t.Errorf("Parse(%.80q) keeps its text", s)
		}
		if share(Show(n), n.Digits) {
			t.Errorf("Show of %.80q tells the number's own digits", s)
		}
	}
}

// P1 and R3: any bytes come to an answer, and with an error to no number.
func FuzzParse(f *testing.F) {
	for _, s := range []string{"0", "-0.150", "1e1000", "1e-99999999999999999999", "01", "1.", "\xff"} {
		f.Add(s)
	}
	f.Fuzz(func(t *testing.T, s string) {
		n, err := Parse(s)
		if (err == api.ErrForm) == numberText.MatchString(s) || err != nil && n != (api.Num{}) || !mayBe(n) {
			t.Errorf("Parse(%q) = %+v, %v", s, n, err)
		}
		if back, err := Parse(Show(n)); err != nil || back != n {
			t.Errorf("Parse(Show) of %q = %+v, %v", s, back, err)
		}
	})
}
