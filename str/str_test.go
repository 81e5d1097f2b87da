package str

import (
	"encoding/json"
	"fmt"
	"math"
	"math/rand"
	"regexp"
	"strings"
	"testing"
	"unicode/utf16"
	"unicode/utf8"
	"unsafe"

	"doublet/api"
)

func wantText(t *testing.T, b string, at int, want string, n int) {
	t.Helper()
	if s, k, err := Unquote(b, at); s != want || k != n || err != nil {
		t.Errorf("Unquote(%.80q, %d) = %.80q, %d, %v; want %.80q, %d", b, at, s, k, err, want, n)
	}
}

// wantWhole is wantText of a text that is quoted from its first byte to its last.
func wantWhole(t *testing.T, b, want string) {
	t.Helper()
	wantText(t, b, 0, want, len(b))
}

// wantSpot also asks for zero values beside the error (R3), and for a Spot that nothing wraps.
func wantSpot(t *testing.T, b string, at int, code api.Code, place int) {
	t.Helper()
	s, n, err := Unquote(b, at)
	spot, ok := err.(*api.Spot)
	if !ok || *spot != (api.Spot{At: place, Code: code}) || s != "" || n != 0 {
		t.Errorf("Unquote(%.80q, %d) = %.80q, %d, %v; want %v at %d alone", b, at, s, n, err, code, place)
	}
}

// P2.1: ordinary texts.
func TestUnquoteOrdinary(t *testing.T) {
	wantWhole(t, `""`, "")
	wantWhole(t, `"a"`, "a")
	wantWhole(t, `"a b, c: [d]"`, "a b, c: [d]")
	wantWhole(t, `"a\u0041"`, "aA")
	wantWhole(t, `"'/\/"`, "'//")
	wantWhole(t, `"\"\\\/\b\f\n\r\t"`, "\x22\x5c\x2f\x08\x0c\x0a\x0d\x09")
	wantWhole(t, `"\\u0041\\n\\"`, `\u0041\n\`)
	wantWhole(t, `"\"\""`, `""`)
	wantWhole(t, `"é€😀"`, "é€😀")
	wantWhole(t, `"\u00e9\u20AC\ud83d\uDE00"`, "é€😀")
	wantWhole(t, `"\u00410"`, "A0")
	wantWhole(t, `"\ud83d\ude00\ud83d\ude01x"`, "😀😁x")
	long := strings.Repeat("é\x7f~ ", 20000)
	wantWhole(t, `"`+long+`"`, long)
}

// P2.1: the text begins at at, and ends with the first " that no \ is ahead of.
func TestUnquoteWithin(t *testing.T) {
	wantText(t, `x"ab"y`, 1, "ab", 4)
	wantText(t, `x"ab"y"`, 4, "y", 3)
	wantText(t, `""""`, 0, "", 2)
	wantText(t, `""""`, 1, "", 2)
	wantText(t, `""""`, 2, "", 2)
	wantText(t, `"a\"b"`, 3, "b", 3)
	wantText(t, `{"k\n":"v\u0041"}`, 1, "k\n", 5)
	wantText(t, `{"k\n":"v\u0041"}`, 7, "vA", 9)
	wantText(t, "\xff\n\\\"a\"\xff\n\\", 3, "a", 3)
	wantText(t, `"\ud83d\ude00"\ude01`, 0, "😀", 14)
}

// P2.1: no " at at, which may be any number.
func TestUnquoteNoQuote(t *testing.T) {
	for _, b := range []string{"", `"`, `""`, `"ab"`, "'a'", `\"a"`, "\xff", "é", `“a”`, "\n"} {
		for _, at := range []int{math.MinInt, math.MinInt + 1, -math.MaxInt32, -2, -1, len(b), len(b) + 1, len(b) + 2, math.MaxInt32, math.MaxInt - 1, math.MaxInt} {
			wantSpot(t, b, at, api.ErrForm, at)
		}
		for at := range len(b) {
			if b[at] != '"' {
				wantSpot(t, b, at, api.ErrForm, at)
			}
		}
	}
	for c := range 256 {
		if c != '"' {
			wantSpot(t, string([]byte{byte(c)})+`""`, 0, api.ErrForm, 0)
		}
	}
}

// P2.1: every byte as it stands.
func TestUnquoteEachByte(t *testing.T) {
	for c := range 256 {
		s := string([]byte{byte(c)})
		b := `"ab` + s + `cd"`
		switch {
		case c < 32:
			wantSpot(t, b, 0, api.ErrForm, 3)
		case c == '"':
			wantText(t, b, 0, "ab", 4)
		case c == '\\':
			wantSpot(t, b, 0, api.ErrForm, 4)
		case c < 128:
			wantWhole(t, b, "ab"+s+"cd")
		default:
			wantSpot(t, b, 0, api.ErrText, 3)
		}
	}
}

// P2.1: every byte behind a \.
func TestUnquoteEachEscape(t *testing.T) {
	means := map[byte]string{'"': "\"", '\\': "\\", '/': "/", 'b': "\x08", 'f': "\x0c", 'n': "\x0a", 'r': "\x0d", 't': "\x09"}
	for c := range 256 {
		b := `"a\` + string([]byte{byte(c)}) + `0041z"`
		if c == 'u' {
			wantWhole(t, b, "aAz")
			continue
		}
		if s, ok := means[byte(c)]; ok {
			wantWhole(t, b, "a"+s+"0041z")
			continue
		}
		wantSpot(t, b, 0, api.ErrForm, 3)
	}
	wantSpot(t, `"\é"`, 0, api.ErrForm, 2)
	wantSpot(t, `"\U0041"`, 0, api.ErrForm, 2)
}

// P2.1: every byte among four digits.
func TestUnquoteEachDigit(t *testing.T) {
	const digits = "0123456789abcdefABCDEF"
	for place := range 4 {
		for c := range 256 {
			s := string([]byte{byte(c)})
			b := `"\u` + "0041"[:place] + s + "0041"[place+1:] + `"`
			if !strings.Contains(digits, s) {
				wantSpot(t, b, 0, api.ErrForm, 3+place)
				continue
			}
			var r rune
			fmt.Sscanf(b[3:7], "%x", &r)
			wantWhole(t, b, string(r))
		}
	}
	wantSpot(t, `"\u"`, 0, api.ErrForm, 3)
	wantSpot(t, `"\u1"`, 0, api.ErrForm, 4)
	wantSpot(t, `"\u123"`, 0, api.ErrForm, 6)
	wantSpot(t, `"\u+041"`, 0, api.ErrForm, 3)
	wantSpot(t, `"\u00é1"`, 0, api.ErrForm, 5)
	wantSpot(t, `"\uGHIJ"`, 0, api.ErrForm, 3)
	wantSpot(t, `"\ud8zz"`, 0, api.ErrForm, 5)
	wantSpot(t, `"\udcz0"`, 0, api.ErrForm, 5)
}

// P2.1: every number behind \u, with small and with great letters.
func TestUnquoteEachNumber(t *testing.T) {
	for k := range 0x10000 {
		for _, form := range []string{`"x\u%04x%s"`, `"x\u%04X%s"`} {
			for _, behind := range []string{"", "y"} {
				b := fmt.Sprintf(form, k, behind)
				if 0xd800 <= k && k <= 0xdfff {
					wantSpot(t, b, 0, api.ErrText, 2)
					continue
				}
				wantWhole(t, b, "x"+string(rune(k))+behind)
			}
		}
	}
}

// P2.1: every pair of halves.
func TestUnquoteEachPair(t *testing.T) {
	for high := 0xd800; high <= 0xdbff; high++ {
		for low := 0xdc00; low <= 0xdfff; low++ {
			b := []byte(`"\u    \u    "`)
			putDigits(b[3:], high)
			putDigits(b[9:], low)
			want := string(utf16.DecodeRune(rune(high), rune(low)))
			if s, n, err := Unquote(string(b), 0); s != want || n != 14 || err != nil {
				t.Fatalf("Unquote(%s) = %q, %d, %v; want %q", b, s, n, err, want)
			}
		}
	}
	wantWhole(t, `"\ud800\udc00"`, "\U00010000")
	wantWhole(t, `"\uDBFF\uDFFF"`, "\U0010ffff")
}

func putDigits(b []byte, k int) {
	for i := range 4 {
		b[3-i] = "0123456789abcdef"[k>>(4*i)&15]
	}
}

// P2.1: a first half with another number behind it.
func TestUnquoteNoPair(t *testing.T) {
	for _, high := range []string{"d800", "D83D", "dbff"} {
		for k := range 0x10000 {
			if k < 0xdc00 || 0xdfff < k {
				wantSpot(t, fmt.Sprintf(`"é\u%s\u%04x\ude00"`, high, k), 0, api.ErrText, 3)
			}
		}
	}
}

// P2.1: a half without its other is told at its \, whatever stands behind it.
func TestUnquoteHalves(t *testing.T) {
	for _, half := range []string{"d800", "D83D", "dbff", "dc00", "De00", "dfff"} {
		for _, behind := range []string{
			"", `"`, "x", `x"`, " \\ude00\"", "\n", "\xff", "é\"", `\`, `\"`, `\n"`, `\x"`, `\\ude00"`, `/ude00"`,
			`\u`, `\u"`, `\ud`, `\ud"`, `\ude`, `\ude0`, `\ude0"`, `\udg00"`, `\ude0g"`, `\uzzzz"`, `\u00`, `\u0041"`,
			`\Ude00"`, `ude00"`, `\ud83d\ude00"`, `\\`, `\u e00"`, "\\ude0\xff\"", "\\ude0\n\"",
		} {
			wantSpot(t, `a"bc\u`+half+behind, 1, api.ErrText, 4)
			wantSpot(t, `"\u0041\n\u`+half+behind, 0, api.ErrText, 9)
		}
	}
	wantSpot(t, `"\ude00\ud83d"`, 0, api.ErrText, 1)
	wantSpot(t, `"\ude00\ude00"`, 0, api.ErrText, 1)
	wantSpot(t, `"\ud83d\ude00\ude00"`, 0, api.ErrText, 13)
	wantSpot(t, `"\ud83d\ude00\ud83d"`, 0, api.ErrText, 13)
}

// P2.1: a text that ends ahead of its last " is told at its end, wherever it is cut.
func TestUnquoteCut(t *testing.T) {
	for _, b := range []string{`"ab\n\u0041\\"`, `"\""`, `"\\\""`, `"\u00e9"`, `"~"`, `"\u20ACx"`} {
		for i := 1; i < len(b); i++ {
			wantSpot(t, b[:i], 0, api.ErrForm, i)
			wantSpot(t, "12"+b[:i], 2, api.ErrForm, 2+i)
		}
	}
	for _, s := range []string{"é", "€", "😀"} {
		wantSpot(t, `"a`+s, 0, api.ErrForm, 2+len(s))
		for i := 1; i < len(s); i++ {
			wantSpot(t, `"a`+s[:i], 0, api.ErrText, 2)
		}
	}
}

// utf8Characters is the grammar of RFC 3629, section 4, for bytes told as runes.
const utf8Characters = `[\x{c2}-\x{df}]T|\x{e0}[\x{a0}-\x{bf}]T|[\x{e1}-\x{ec}\x{ee}\x{ef}]TT|\x{ed}[\x{80}-\x{9f}]T|` +
	`\x{f0}[\x{90}-\x{bf}]TT|[\x{f1}-\x{f3}]TTT|\x{f4}[\x{80}-\x{8f}]TT`

// quoted is all of a quoted text but its last ".
var quoted = regexp.MustCompile(`\A"(?:[\x20!#-\[\]-\x7f]|` +
	strings.ReplaceAll(utf8Characters, "T", `[\x{80}-\x{bf}]`) +
	`|\\["\\/bfnrt]|\\u(?:[0-9a-cA-CefEF][0-9a-fA-F]|[dD][0-7])[0-9a-fA-F]{2}` +
	`|\\u[dD][89abAB][0-9a-fA-F]{2}\\u[dD][c-fC-F][0-9a-fA-F]{2})*`)

var half = regexp.MustCompile(`\A\\u[dD][89a-fA-F][0-9a-fA-F]{2}`)

var shortNumber = regexp.MustCompile(`\A\\u[0-9a-fA-F]{0,3}`)

// wide tells each byte as a rune, so that regexp reads bytes.
func wide(b string) string {
	l := make([]rune, len(b))
	for i := range l {
		l[i] = rune(b[i])
	}
	return string(l)
}

// grammar tells, by regexp, how many bytes are quoted from the front of b, or what is wrong.
func grammar(b string) (int, *api.Spot) {
	if !strings.HasPrefix(b, `"`) {
		return 0, &api.Spot{At: 0, Code: api.ErrForm}
	}
	at := utf8.RuneCountInString(quoted.FindString(wide(b)))
	rest := b[at:]
	switch {
	case strings.HasPrefix(rest, `"`):
		return at + 1, nil
	case rest != "" && rest[0] > 127, half.MatchString(rest):
		return 0, &api.Spot{At: at, Code: api.ErrText}
	case strings.HasPrefix(rest, `\u`):
		return 0, &api.Spot{At: at + len(shortNumber.FindString(rest)), Code: api.ErrForm}
	case strings.HasPrefix(rest, `\`):
		return 0, &api.Spot{At: at + 1, Code: api.ErrForm}
	}
	return 0, &api.Spot{At: at, Code: api.ErrForm}
}

// checkText holds Unquote against the grammar, and what a text means against encoding/json.
func checkText(t *testing.T, b string) {
	t.Helper()
	n, spot := grammar(b)
	if spot != nil {
		wantSpot(t, b, 0, spot.Code, spot.At)
		return
	}
	var s string
	if err := json.Unmarshal([]byte(b[:n]), &s); err != nil {
		t.Fatalf("%q: %v", b[:n], err)
	}
	wantText(t, b, 0, s, n)
	wantText(t, "é"+b, 2, s, n)
}

// P2.1: all short texts of chosen pieces, so that errors of all kinds stand ahead of one another.
func TestUnquoteAllShort(t *testing.T) {
	pieces := []string{`"`, `\`, "u", "n", "00e9", "d83d", "DE00", "dz", `\ud83d`, `\uDe01`, "\n", "\xff", "é", "\xe2\x82", "\xac"}
	var all func(b string, left int)
	all = func(b string, left int) {
		checkText(t, b)
		for _, p := range pieces {
			if left > 0 {
				all(b+p, left-1)
			}
		}
	}
	all(`"`, 4)
}

// P2.1: two bytes, the first one beyond 127, and three, the first two beyond 127, against RFC 3629.
func TestUnquoteBytes(t *testing.T) {
	for a := 128; a < 256; a++ {
		for b := range 256 {
			wantBytes(t, []byte{'"', byte(a), byte(b), '"'})
		}
		for b := 128; b < 256; b++ {
			for c := range 256 {
				wantBytes(t, []byte{'"', byte(a), byte(b), byte(c), '"'})
			}
		}
	}
}

// P2.1: four bytes near every edge of RFC 3629.
func TestUnquoteFourBytes(t *testing.T) {
	edges := []byte{0x20, 0x41, 0x7f, 0x80, 0x81, 0x8f, 0x90, 0x9f, 0xa0, 0xbe, 0xbf, 0xc0, 0xc2, 0xe0, 0xf0, 0xff}
	for a := 0xec; a < 256; a++ {
		for _, b := range edges {
			for _, c := range edges {
				for _, d := range edges {
					wantBytes(t, []byte{'"', byte(a), b, c, d, '"'})
				}
			}
		}
	}
}

// rfc3629 tells whether l begins with a character beyond 127, and how many bytes that has.
func rfc3629(l []byte) int {
	from, to, n := byte(0x80), byte(0xbf), 0
	switch a := l[0]; {
	case 0xc2 <= a && a <= 0xdf:
		n = 2
	case 0xe0 <= a && a <= 0xef:
		n = 3
	case 0xf0 <= a && a <= 0xf4:
		n = 4
	}
	switch l[0] {
	case 0xe0:
		from = 0xa0
	case 0xed:
		to = 0x9f
	case 0xf0:
		from = 0x90
	case 0xf4:
		to = 0x8f
	}
	if n == 0 || n > len(l) || l[1] < from || to < l[1] {
		return 0
	}
	for _, c := range l[2:n] {
		if c < 0x80 || 0xbf < c {
			return 0
		}
	}
	return n
}

// wantBytes is of bytes in quotes: what RFC 3629 has to say of them, and, where a \ or a byte below 32 comes first, the grammar.
func wantBytes(t *testing.T, b []byte) {
	t.Helper()
	i := 1
	for b[i] != '"' {
		if b[i] < 32 || b[i] == '\\' {
			checkText(t, string(b))
			return
		}
		n := 1
		if b[i] > 127 {
			n = rfc3629(b[i:])
		}
		if n == 0 {
			wantSpot(t, string(b), 0, api.ErrText, i)
			return
		}
		i += n
	}
	wantText(t, string(b), 0, string(b[1:i]), i+1)
}

// P2.1 and P2.3: every character there is, as it stands and as it is quoted.
func TestEachCharacter(t *testing.T) {
	for r := rune(0); r <= utf8.MaxRune; r++ {
		if 0xd800 <= r && r <= 0xdfff {
			continue
		}
		s := string(r)
		if r >= 32 && r != '"' && r != '\\' {
			wantWhole(t, `"`+s+`"`, s)
			if q := Quote(s); q != `"`+s+`"` {
				t.Errorf("Quote(%q) = %s", s, q)
			}
		}
		wantWhole(t, Quote(s), s)
	}
}

// P2.1: the character that stands for what is no text may stand there itself.
func TestUnquoteReplacement(t *testing.T) {
	wantWhole(t, "\"\xef\xbf\xbd\"", "\ufffd")
	wantWhole(t, `"\ufffd\uFFFD"`, "\ufffd\ufffd")
	wantSpot(t, "\"\xef\xbf\xbd\xef\xbf\"", 0, api.ErrText, 4)
}

// P2.1: of several errors the one nearest the front.
func TestUnquoteFirstError(t *testing.T) {
	wantSpot(t, "\"\xff\n\"", 0, api.ErrText, 1)
	wantSpot(t, "\"\n\xff\"", 0, api.ErrForm, 1)
	wantSpot(t, "\"\xff\\x\"", 0, api.ErrText, 1)
	wantSpot(t, "\"\\x\xff\"", 0, api.ErrForm, 2)
	wantSpot(t, "\"\\\xff\"", 0, api.ErrForm, 2)
	wantSpot(t, "\"\\u00\xff\"", 0, api.ErrForm, 5)
	wantSpot(t, "\"\\ude00\xff\n", 0, api.ErrText, 1)
	wantSpot(t, "\"\xff\\ude00", 0, api.ErrText, 1)
	wantSpot(t, "\"\\u00\\ude00\"", 0, api.ErrForm, 5)
	wantSpot(t, "\"\xff", 0, api.ErrText, 1)
	wantSpot(t, "\"\x1f", 0, api.ErrForm, 1)
	wantSpot(t, "\n\"\xff", 0, api.ErrForm, 0)
}

// P2.2: canonical form.
func TestQuote(t *testing.T) {
	for s, want := range map[string]string{
		"":                   `""`,
		"a":                  `"a"`,
		"a b/c'":             `"a b/c'"`,
		`"`:                  `"\""`,
		`\`:                  `"\\"`,
		`\n\u0041\"`:         `"\\n\\u0041\\\""`,
		"\b\f\n\r\t":         `"\u0008\u000c\u000a\u000d\u0009"`,
		"\x00\x1f\x1a\x0b":   `"\u0000\u001f\u001a\u000b"`,
		"\x20\x7f":           "\"\x20\x7f\"",
		"é€😀<>&\u2028\u2029": "\"é€😀<>&\u2028\u2029\"",
		"\u0080\ufeff\ufffd": "\"\u0080\ufeff\ufffd\"",
		"a\"\\\x01/é\"":      `"a\"\\\u0001/é\""`,
	} {
		if q := Quote(s); q != want {
			t.Errorf("Quote(%q) = %s, want %s", s, q, want)
		}
	}
	for c := range 128 {
		s := string(rune(c))
		want := s
		switch {
		case c < 32:
			want = fmt.Sprintf(`\u%04x`, c)
		case c == '"' || c == '\\':
			want = `\` + s
		}
		if q := Quote("x" + s + "y"); q != `"x`+want+`y"` {
			t.Errorf("Quote of byte %d = %s", c, q)
		}
	}
}

// randomText is UTF-8 in which what has a form of its own stands often.
func randomText(r *rand.Rand) string {
	var b strings.Builder
	for range r.Intn(40) {
		switch r.Intn(5) {
		case 0:
			b.WriteByte(`"\/un`[r.Intn(5)])
		case 1:
			b.WriteByte(byte(r.Intn(32)))
		case 2:
			b.WriteByte(byte(r.Intn(128)))
		case 3:
			b.WriteRune(rune(r.Intn(0xd800)))
		case 4:
			b.WriteRune(0xe000 + rune(r.Intn(0x102000)))
		}
	}
	return b.String()
}

// P2.3: what was quoted is unquoted; RFC 8259 has it so, too.
func TestQuotedIsUnquoted(t *testing.T) {
	r := rand.New(rand.NewSource(2))
	for range 20000 {
		s := randomText(r)
		q := Quote(s)
		wantWhole(t, q, s)
		wantText(t, s+q+s, len(s), s, len(q))
		var back string
		if err := json.Unmarshal([]byte(q), &back); err != nil || back != s {
			t.Errorf("Quote(%q) = %s is %q, %v", s, q, back, err)
		}
	}
}

// P2.1: a quoted text with some bytes changed, against the grammar.
func TestUnquoteBytesOff(t *testing.T) {
	r := rand.New(rand.NewSource(3))
	odd := "\"\\u/\n\x00\x7f\x80\xbf\xc2\xe2\xed\xf0\xf4\xff0dD8cG"
	for range 50000 {
		b := []byte(Quote(randomText(r)))
		for range 1 + r.Intn(3) {
			b[r.Intn(len(b))] = odd[r.Intn(len(odd))]
		}
		checkText(t, string(b))
	}
}

func share(a, b string) bool {
	from, to := uintptr(unsafe.Pointer(unsafe.StringData(a))), uintptr(unsafe.Pointer(unsafe.StringData(b)))
	return from < to+uintptr(len(b)) && to < from+uintptr(len(a))
}

// R2: what is told shares no memory with what is handed in.
func TestNewMemory(t *testing.T) {
	for _, s := range []string{"a", "é", "plain", strings.Repeat("long", 1000), "a\nb", `"`} {
		q := strings.Clone(Quote(strings.Clone(s)))
		back, _, err := Unquote(q, 0)
		if err != nil || back != s || share(back, q) {
			t.Errorf("Unquote(%.80q) = %.80q, %v keeps its text", q, back, err)
		}
		if share(Quote(back), back) {
			t.Errorf("Quote(%.80q) tells its own text", back)
		}
	}
}

// P1, P2.1 and P2.3: any bytes at any place come to the answer that the grammar has.
func FuzzUnquote(f *testing.F) {
	f.Add(`"a\u0041"`, 0)
	f.Add(`"\ud83d\ude00\ud83d\u00`, 0)
	f.Add("x\"\xe2\x82\xac\xff\"", 1)
	f.Add("\n", -1)
	f.Fuzz(func(t *testing.T, b string, at int) {
		if at < 0 || at >= len(b) {
			wantSpot(t, b, at, api.ErrForm, at)
			at = 0
		}
		checkText(t, b[at:])
		if utf8.ValidString(b) {
			wantWhole(t, Quote(b), b)
		}
	})
}
