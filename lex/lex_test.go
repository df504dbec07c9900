package lex_test

import (
	"math"
	"math/big"
	"math/rand/v2"
	"regexp"
	"slices"
	"strconv"
	"strings"
	"testing"
	"unicode/utf8"

	"intarsia/api"
	"intarsia/lex"
)

// glyphs are the code points of the chapter's glyphs.
var glyphs = []rune{0x2191, 0x2193, 0x233D, 0x2349, 0x2374, 0x236C, 0x2190, ',', '(', ')', '[', ']'}

// extremes are numbers at the ends of int64, and numbers around 0 and powers of 2 and 10.
var extremes = []int64{
	math.MinInt64, math.MinInt64 + 1, math.MinInt32, -65537, -101, -100, -99, -11, -10, -9, -2, -1, 0, 1, 2, 9, 10, 11, 99, 100, 101, 65536, math.MaxInt32, 1 << 32, 1e18, math.MaxInt64 - 1, math.MaxInt64,
}

func word(text string) lex.Token { return lex.Token{Kind: lex.Word, Text: text} }

func number(text string, n int64) lex.Token {
	return lex.Token{Kind: lex.Number, Text: text, N: n}
}

func glyph(r rune) lex.Token { return lex.Token{Kind: lex.Glyph, Text: string(r)} }

// list makes the tokens of a text with single spaces between them.
func list(text string) []lex.Token {
	var l []lex.Token
	for _, field := range strings.Fields(text) {
		first, _ := utf8.DecodeRuneInString(field)
		switch {
		case slices.Contains(glyphs, first):
			l = append(l, glyph(first))
		case first == 0xAF || '0' <= first && first <= '9':
			n, _ := strconv.ParseInt(strings.Replace(field, "\u00AF", "-", 1), 10, 64)
			l = append(l, number(field, n))
		default:
			l = append(l, word(field))
		}
	}
	return l
}

// short returns a text that can be printed.
func short(s string) string {
	if len(s) > 60 {
		return strconv.Quote(s[:60]) + ".. of " + strconv.Itoa(len(s)) + " bytes"
	}
	return strconv.Quote(s)
}

func checkTokens(t *testing.T, s string, want []lex.Token) {
	t.Helper()
	l, e := lex.Tokens(s)
	if e != api.OK {
		t.Fatalf("Tokens(%s) has the error %d; want %d tokens", short(s), e, len(want))
	}
	if len(l) != len(want) {
		t.Fatalf("Tokens(%s) has %d tokens; want %d", short(s), len(l), len(want))
	}
	for i := range l {
		if l[i] != want[i] {
			t.Fatalf("Tokens(%s) has the token %d %+v; want %+v", short(s), i, l[i], want[i])
		}
	}
}

func checkError(t *testing.T, s string) {
	t.Helper()
	if l, e := lex.Tokens(s); len(l) != 0 || e != api.ErrSyntax {
		t.Fatalf("Tokens(%s) = %d tokens, %d; want none, ErrSyntax", short(s), len(l), e)
	}
}

func TestConstants(t *testing.T) {
	if lex.Word != 1 || lex.Number != 2 || lex.Glyph != 3 {
		t.Errorf("kinds %d %d %d", lex.Word, lex.Number, lex.Glyph)
	}
}

func TestTextsOfBlanks(t *testing.T) {
	for _, s := range []string{"", " ", "\t", "\r", "  ", " \t\r\r\t ", strings.Repeat("\t", 1000)} {
		checkTokens(t, s, nil)
	}
}

func TestTokens(t *testing.T) {
	for s, want := range map[string]string{
		"¯5 2↑x":               "¯5 2 ↑ x",
		"x":                    "x",
		"7":                    "7",
		"⍬":                    "⍬",
		"a←1 2 3":              "a ← 1 2 3",
		"(2↑x),2↓x":            "( 2 ↑ x ) , 2 ↓ x",
		"⌽[1]m":                "⌽ [ 1 ] m",
		"⍉⍴⍬":                  "⍉ ⍴ ⍬",
		"x_1 x1 x x_":          "x_1 x1 x x_",
		"_ __ _1 _a _A9_":      "_ __ _1 _a _A9_",
		"A Z a z A0z9_":        "A Z a z A0z9_",
		"x9223372036854775808": "x9223372036854775808",
		"x007":                 "x007",
		"0":                    "0",
		"0 0":                  "0 0",
		"0,0":                  "0 , 0",
		"10 100 1001":          "10 100 1001",
		"1 23 456":             "1 23 456",
		"1¯2":                  "1 ¯2",
		"¯1¯2¯3":               "¯1 ¯2 ¯3",
		"0¯1":                  "0 ¯1",
		"a¯5":                  "a ¯5",
		"5(a":                  "5 ( a",
		"5⍴a":                  "5 ⍴ a",
		"5⌽6":                  "5 ⌽ 6",
		"a(b":                  "a ( b",
		"a↑5↓b6,7]c":           "a ↑ 5 ↓ b6 , 7 ] c",
		"]][[))((,,":           "] ] [ [ ) ) ( ( , ,",
		"←←":                   "← ←",
		"  a\t\tb\r\r5 \t\r¯6": "a b 5 ¯6",
		"a\t":                  "a",
		"\r\ta":                "a",
		"5\r":                  "5",
		" ↑ ":                  "↑",
		"9223372036854775807 ¯9223372036854775808": "9223372036854775807 ¯9223372036854775808",
	} {
		checkTokens(t, s, list(want))
	}
	checkTokens(t, "ab ¯12↑[", []lex.Token{
		{Kind: 1, Text: "ab"}, {Kind: 2, Text: "¯12", N: -12}, {Kind: 3, Text: "↑"}, {Kind: 3, Text: "["},
	})
}

// kind returns the kind of token that a character alone is by the definition, or 0.
func kind(r rune) int {
	switch {
	case '0' <= r && r <= '9':
		return lex.Number
	case 'a' <= r && r <= 'z' || 'A' <= r && r <= 'Z' || r == '_':
		return lex.Word
	case slices.Contains(glyphs, r):
		return lex.Glyph
	}
	return 0
}

// Every character is tried alone, and directly behind a word, a number and a glyph.
func TestEachCharacter(t *testing.T) {
	a, five, comma := word("a"), number("5", 5), glyph(',')
	for r := range utf8.MaxRune + 1 {
		s := string(r)
		switch kind(r) {
		case lex.Word:
			checkTokens(t, s, []lex.Token{word(s)})
			checkTokens(t, "a"+s, []lex.Token{word("a" + s)})
			checkError(t, "5"+s)
			checkTokens(t, ","+s, []lex.Token{comma, word(s)})
		case lex.Number:
			n := int64(r - '0')
			checkTokens(t, s, []lex.Token{number(s, n)})
			checkTokens(t, "a"+s, []lex.Token{word("a" + s)})
			checkTokens(t, "5"+s, []lex.Token{number("5"+s, 50+n)})
			checkTokens(t, ","+s, []lex.Token{comma, number(s, n)})
		case lex.Glyph:
			checkTokens(t, s, []lex.Token{glyph(r)})
			checkTokens(t, "a"+s, []lex.Token{a, glyph(r)})
			checkTokens(t, "5"+s, []lex.Token{five, glyph(r)})
			checkTokens(t, ","+s, []lex.Token{comma, glyph(r)})
		default:
			if r == ' ' || r == '\t' || r == '\r' {
				checkTokens(t, s, nil)
				checkTokens(t, "5"+s+"5", []lex.Token{five, five})
				checkTokens(t, s+"a"+s+"a"+s, []lex.Token{a, a})
				continue
			}
			for _, s := range []string{s, "a" + s, "5" + s, "," + s} {
				checkError(t, s)
			}
		}
	}
}

// Bytes that are no UTF-8 are errors wherever they are.
func TestBytesThatAreNoText(t *testing.T) {
	wrong := []string{
		"\xc0\xa0", "\xc1\x81", "\xe0\x80\xa0", "\xe0\x82\xaf", "\xf0\x82\x86\x91", // a space, A, a space, ¯ and ↑ in too many bytes
		"\xed\xa0\x80", "\xed\xbf\xbf", "\xf4\x90\x80\x80", "\xff\xfe", "\xef\xbb\xbf", "\xef\xbf\xbd",
		"\xaf5", "\xc25", "\xe2\x86a", "\x91\x86\xe2", "\xe2\x86\xe2\x86\x91", "\xc2\xc2\xaf5", "\xc2 \xaf",
	}
	for b := 0x80; b <= 0xff; b++ {
		wrong = append(wrong, string([]byte{byte(b)}), string([]byte{0xc2, byte(b)}), string([]byte{0xe2, 0x86, byte(b)}))
	}
	for _, r := range append(slices.Clone(glyphs), 0xAF) {
		for cut := 1; cut < len(string(r)); cut++ {
			wrong = append(wrong, string(r)[:cut], string(r)[cut:])
		}
	}
	for _, s := range wrong {
		if s == "↑" || s == "↓" || s == "←" {
			continue
		}
		for _, before := range []string{"", " ", "a", "5", "¯5", "↑", ",", "a b "} {
			for _, after := range []string{"", " ", "a", "↑", "(", " 7"} {
				checkError(t, before+s+after)
			}
		}
	}
}

func TestOtherCharacters(t *testing.T) {
	for _, s := range []string{
		"+", "-", "-1", "- 1", "*", "/", "\\", ".", "1.5", ":", ";", "'a'", "\"", "{", "}", "<-", "#", "a-b", "a:b", "1e5", "0x10", "1,2;3", "a.b",
		"\n", "a\nb", "1\n", "\r\n", "\v", "\f", "\x00", "a\x00", "\x7f",
		"\u00a0", "\u0085", "\u2003", "\u200b", "\u2028", "\u3000", // blanks elsewhere
		"é", "É", "ａ", "α", "µ", "ªa", "aé", "٣", "５", "²", "½", "a²", // letters and digits elsewhere
		"⍺", "⍵", "⊖", "⍳", "∊", "→", "⇑", "⍷", "，", "（", "⍪", "˜",
		"‾5", "ˉ5", "−5", "–5", // like a high minus
		"a ⍺ b", "2 3⍴x\n", "x ? y",
	} {
		checkError(t, s)
	}
}

func TestNumbers(t *testing.T) {
	for _, n := range extremes {
		text := strings.Replace(big.NewInt(n).String(), "-", "\u00AF", 1)
		checkTokens(t, text, []lex.Token{number(text, n)})
		checkTokens(t, text+" "+text+","+text, []lex.Token{number(text, n), number(text, n), glyph(','), number(text, n)})
	}
	for n := int64(-2000); n <= 2000; n++ {
		text := strings.Replace(strconv.FormatInt(n, 10), "-", "\u00AF", 1)
		checkTokens(t, text, []lex.Token{number(text, n)})
	}
}

func TestTextsThatAreNoNumbers(t *testing.T) {
	for _, s := range []string{
		"00", "01", "007", "0123", "00x", "000000000000000000000000000000", "09223372036854775807", "01 2", "1 01", "1,00",
		"¯0", "¯00", "¯01", "¯0 1", "1 ¯0", "a,¯0", "¯0x", "¯007",
		"¯", "¯ 5", "¯ ", " ¯", "¯¯", "¯¯5", "¯x", "¯_", "¯(5)", "¯,5", "¯↑", "5¯", "5¯ ", "a¯", "a¯ 5", "5 ¯", "¯5¯", "¯\t5", "¯-5", "-¯5", "¯⍬", "¯é",
		"5x", "5_", "5X", "0x", "0_", "0a1", "1_000", "10a", "¯5x", "¯5_", "¯10_1", "5é", "5x6", "1 5x", "5x↑", "5a,b", "5z ", "_¯5b1 ¯10", "5A", "5Z", "5a",
		"9223372036854775808", "9223372036854775809", "9223372036854775817", "9999999999999999999", "10000000000000000000", "18446744073709551615", "18446744073709551616", "18446744073709551617", "92233720368547758070", "36893488147419103233",
		"¯9223372036854775809", "¯9223372036854775810", "¯9223372036854775818", "¯9999999999999999999", "¯18446744073709551615", "¯18446744073709551616", "¯18446744073709551617", "¯92233720368547758080",
		"9223372036854775807x", "9223372036854775808 1", "1 9223372036854775808", "1¯9223372036854775809",
		"1" + strings.Repeat("0", 1000), "¯1" + strings.Repeat("0", 65000),
	} {
		checkError(t, s)
	}
}

// Texts with MaxBytes bytes have tokens; with one more byte, whatever it is, they have none.
func TestLengthsOfTexts(t *testing.T) {
	const most = 65536
	for _, x := range []struct {
		s    string
		want []lex.Token
	}{
		{strings.Repeat(" ", most), nil},
		{strings.Repeat("\r", most), nil},
		{strings.Repeat("x", most), []lex.Token{word(strings.Repeat("x", most))}},
		{"_" + strings.Repeat("9", most-1), []lex.Token{word("_" + strings.Repeat("9", most-1))}},
		{strings.Repeat("(", most), slices.Repeat([]lex.Token{glyph('(')}, most)},
		// There are fewer characters than bytes.
		{strings.Repeat("↑", most/3) + ",", append(slices.Repeat([]lex.Token{glyph('↑')}, most/3), glyph(','))},
		{strings.Repeat("7 ", most/2), slices.Repeat([]lex.Token{number("7", 7)}, most/2)},
		{strings.Repeat("¯7\t", most/4), slices.Repeat([]lex.Token{number("¯7", -7)}, most/4)},
		{strings.Repeat("a\r", most/2), slices.Repeat([]lex.Token{word("a")}, most/2)},
		{strings.Repeat(" ", most-2) + "ab", []lex.Token{word("ab")}},
		{"5" + strings.Repeat(" ", most-2) + "6", []lex.Token{number("5", 5), number("6", 6)}},
	} {
		if len(x.s) != most {
			t.Fatalf("a text has %d bytes", len(x.s))
		}
		checkTokens(t, x.s, x.want)
		for _, more := range []string{" ", "\t", "x", ",", "↑", "\n", "\xff", x.s} {
			checkError(t, x.s+more)
			checkError(t, more+x.s)
		}
	}
	checkTokens(t, strings.Repeat(" ", most-1), nil)
	checkError(t, strings.Repeat("⍬", most/2)) // with at most MaxBytes characters
	checkError(t, strings.Repeat("1", most))
	checkError(t, strings.Repeat(" ", most-1)+"+")
	checkError(t, strings.Repeat("x ", most/2-1)+"5x")
	checkError(t, strings.Repeat(" ", 1<<22))
}

var parts = regexp.MustCompile("^(?:([ \t\r]+)|([A-Za-z_][A-Za-z_0-9]*)|(\u00AF?[0-9]+)|([\u2191\u2193\u233D\u2349\u2374\u236C\u2190,()\\[\\]]))")

// right tells by the definition whether a text of digits, with or without a high minus, is a Number that rest may follow, and which.
func right(text, rest string) (int64, bool) {
	digits, negative := strings.CutPrefix(text, "\u00AF")
	n, _ := new(big.Int).SetString(digits, 10)
	if negative {
		n.Neg(n)
	}
	if digits != "0" && digits[0] == '0' || negative && n.Sign() == 0 || !n.IsInt64() {
		return 0, false
	}
	return n.Int64(), rest == "" || kind(rune(rest[0])) != lex.Word
}

// read returns the tokens of a text by the definition, and whether it has any.
func read(s string) ([]lex.Token, bool) {
	var l []lex.Token
	for s != "" {
		m := parts.FindStringSubmatch(s)
		if m == nil {
			return nil, false
		}
		s = s[len(m[0]):]
		switch {
		case m[2] != "":
			l = append(l, word(m[2]))
		case m[3] != "":
			n, ok := right(m[3], s)
			if !ok {
				return nil, false
			}
			l = append(l, number(m[3], n))
		case m[4] != "":
			l = append(l, lex.Token{Kind: lex.Glyph, Text: m[4]})
		}
	}
	return l, true
}

// checkText compares the tokens of a text with the definition, and those of the glued tokens with them.
func checkText(t *testing.T, s string) {
	t.Helper()
	want, ok := read(s)
	if !ok {
		checkError(t, s)
	} else {
		checkTokens(t, s, want)
		checkTokens(t, lex.Glue(want), want)
	}
	isWord := len(want) == 1 && want[0].Kind == lex.Word && want[0].Text == s
	if lex.Name(s) != isWord {
		t.Fatalf("Name(%s) = %v", short(s), !isWord)
	}
}

// All texts of up to five parts of an alphabet are tried.
func TestAllShortTexts(t *testing.T) {
	alphabet := []string{"a", "_", "0", "5", "¯", " ", "\t", "↑", "[", "é", "\xc2", "\xaf"}
	texts := []string{""}
	for range 5 {
		for _, s := range texts {
			checkText(t, s)
		}
		var longer []string
		for _, s := range texts {
			for _, part := range alphabet {
				longer = append(longer, s+part)
			}
		}
		texts = longer
	}
	for _, s := range texts {
		checkText(t, s)
	}
}

func TestRandomTexts(t *testing.T) {
	source := rand.New(rand.NewPCG(7, 7))
	alphabet := []string{
		" ", "\t", "\r", "  ", " ", "a", "bc", "Z", "_", "x1", "0", "1", "9", "10", "922337203685477580", "9223372036854775807", "9223372036854775808", "¯", "¯1", "¯9223372036854775808",
		"↑", "↓", "⌽", "⍉", "⍴", "⍬", "←", ",", "(", ")", "[", "]", " ", " ",
	}
	for i := range 60000 {
		var s strings.Builder
		for range source.IntN(12) {
			s.WriteString(alphabet[source.IntN(len(alphabet))])
		}
		if i%7 == 0 {
			s.WriteString([]string{"+", "é", "\n", "\xe2", "⍺"}[source.IntN(5)])
		}
		checkText(t, s.String())
	}
}

func TestName(t *testing.T) {
	for _, s := range []string{"a", "z", "A", "Z", "_", "x", "xy", "x1", "x_", "_1", "__", "a0", "Z9", "aB_9", "q0123456789", "ABCDEFGHIJKLMNOPQRSTUVWXYZ", "abcdefghijklmnopqrstuvwxyz"} {
		if !lex.Name(s) {
			t.Errorf("Name(%s) = false", short(s))
		}
	}
	for _, s := range []string{
		"", " ", "\t", " a", "a ", "\ta", "a\r", "a b", "a\n", "\na", "1", "0", "1a", "9_", "¯1", "¯a", "a¯", "a¯1", "↑", "a↑", "↑a", "a,", "(a)", "a←", "[", "a-b", "a.b", "a'", "$a", "@", "`", "{", "a{", "a@", "a/", "a:",
		"é", "aé", "éa", "ａ", "α", "a٣", "a²", "a\x00", "\x00", "a\xff", "\xff", "\xffa", "a\u00a0", "\ufeffa", "a\u0301",
	} {
		if lex.Name(s) {
			t.Errorf("Name(%s) = true", short(s))
		}
	}
	for b := range 256 {
		c := byte(b)
		letter := c == '_' || 'a' <= c && c <= 'z' || 'A' <= c && c <= 'Z'
		if got := lex.Name(string([]byte{c})); got != letter {
			t.Errorf("Name of the byte %d = %v", b, got)
		}
		if got := lex.Name(string([]byte{'a', c})); got != (letter || '0' <= c && c <= '9') {
			t.Errorf("Name of a and the byte %d = %v", b, got)
		}
	}
}

// A Word may have any length; only a text with tokens may not.
func TestLongNames(t *testing.T) {
	for _, n := range []int{65535, 65536, 65537, 1 << 20} {
		s := strings.Repeat("x", n)
		if !lex.Name(s) {
			t.Errorf("Name of %d letters = false", n)
		}
		for _, wrong := range []string{s + " ", " " + s, s + "é", "9" + s, s + ",", strings.Repeat("9", n)} {
			if lex.Name(wrong) {
				t.Errorf("Name(%s) = true", short(wrong))
			}
		}
	}
}

func TestDecimal(t *testing.T) {
	for n, want := range map[int64]string{
		0: "0", 1: "1", -1: "¯1", 5: "5", -5: "¯5", 10: "10", -10: "¯10", 77: "77", -123: "¯123", 65536: "65536",
		math.MaxInt64: "9223372036854775807", math.MinInt64: "¯9223372036854775808", math.MinInt64 + 1: "¯9223372036854775807",
	} {
		if got := lex.Decimal(n); got != want {
			t.Errorf("Decimal(%d) = %s; want %s", n, short(got), short(want))
		}
	}
	for _, n := range extremes {
		if got, want := lex.Decimal(n), strings.Replace(big.NewInt(n).String(), "-", "\u00AF", 1); got != want {
			t.Errorf("Decimal(%d) = %s; want %s", n, short(got), short(want))
		}
	}
}

// The text of a number is a Number with it.
func TestNumbersOfDecimals(t *testing.T) {
	source := rand.New(rand.NewPCG(7, 8))
	for range 20000 {
		n := int64(source.Uint64()) >> source.IntN(64)
		text := lex.Decimal(n)
		checkTokens(t, text, []lex.Token{number(text, n)})
		if want := strings.Replace(strconv.FormatInt(n, 10), "-", "\u00AF", 1); text != want {
			t.Fatalf("Decimal(%d) = %s; want %s", n, short(text), short(want))
		}
	}
}

func checkGlue(t *testing.T, l []lex.Token, want string) {
	t.Helper()
	if got := lex.Glue(l); got != want {
		t.Fatalf("Glue(%v) = %s; want %s", l[:min(len(l), 10)], short(got), short(want))
	}
}

func TestGlue(t *testing.T) {
	for s, want := range map[string]string{
		"":                "",
		"a":               "a",
		"5":               "5",
		"¯5":              "¯5",
		"⍬":               "⍬",
		"a b":             "a b",
		"a 5":             "a 5",
		"5 a":             "5 a",
		"5 6":             "5 6",
		"5 ¯6":            "5 ¯6",
		"¯5 ¯6":           "¯5 ¯6",
		"a ¯6":            "a ¯6",
		"¯6 a":            "¯6 a",
		"a ↑":             "a↑",
		"↑ a":             "↑a",
		"5 ↑":             "5↑",
		"↑ ¯5":            "↑¯5",
		"↑ ↓":             "↑↓",
		"( ( ) )":         "(())",
		"¯5 2 ↑ x":        "¯5 2↑x",
		"a ← 1 2 3":       "a←1 2 3",
		"a ← ⌽ [ 1 ] b ,": "a←⌽[1]b,",
		"( a b ) 1 2 , c": "(a b)1 2,c",
		"a 1 b ¯2 ⍬ 3 c":  "a 1 b ¯2⍬3 c",
	} {
		checkGlue(t, list(s), want)
	}
	checkGlue(t, nil, "")
	checkGlue(t, []lex.Token{}, "")
	for _, r := range glyphs {
		checkGlue(t, []lex.Token{glyph(r)}, string(r))
		checkGlue(t, []lex.Token{word("a"), glyph(r), number("7", 7)}, "a"+string(r)+"7")
		checkGlue(t, []lex.Token{number("7", 7), glyph(r), glyph(r), word("b"), word("c")}, "7"+string(r)+string(r)+"b c")
	}
}

// samples are tokens of each kind.
func samples() []lex.Token {
	l := list("a Z9 _ x_1 0 7 10 9223372036854775807 ¯1 ¯20 ¯9223372036854775808")
	for _, r := range glyphs {
		l = append(l, glyph(r))
	}
	return l
}

// glued returns the texts of tokens by the definition.
func glued(l []lex.Token) string {
	text := ""
	for i, x := range l {
		if i > 0 && x.Kind != lex.Glyph && l[i-1].Kind != lex.Glyph {
			text += " "
		}
		text += x.Text
	}
	return text
}

func checkGluedAgain(t *testing.T, l []lex.Token) {
	t.Helper()
	s := glued(l)
	checkGlue(t, l, s)
	checkTokens(t, s, l)
}

func TestGluedTokensAreReadAgain(t *testing.T) {
	some := samples()
	for _, a := range some {
		checkGluedAgain(t, []lex.Token{a})
		for _, b := range some {
			checkGluedAgain(t, []lex.Token{a, b})
			for _, c := range some {
				checkGluedAgain(t, []lex.Token{a, b, c})
			}
		}
	}
	source := rand.New(rand.NewPCG(7, 9))
	for range 3000 {
		l := make([]lex.Token, source.IntN(40))
		for i := range l {
			l[i] = some[source.IntN(len(some))]
		}
		checkGluedAgain(t, l)
	}
}

// The glued tokens of a text may have more bytes than it, and too many for a text.
func TestGluedTokensAtTheLimit(t *testing.T) {
	s := "1" + strings.Repeat("¯1", 16384) // with a space in front of each high minus, these are 65537 bytes
	l, e := lex.Tokens(s)
	if e != api.OK || len(l) != 16385 {
		t.Fatalf("Tokens(%s) = %d tokens, %d", short(s), len(l), e)
	}
	checkGlue(t, l, "1"+strings.Repeat(" ¯1", 16384))
	checkError(t, lex.Glue(l))
	checkTokens(t, lex.Glue(l[1:]), l[1:])
	commas := slices.Repeat([]lex.Token{glyph(',')}, 100000)
	checkGlue(t, commas, strings.Repeat(",", 100000))
	long := word(strings.Repeat("x", 70000))
	checkGlue(t, []lex.Token{long, long}, long.Text+" "+long.Text)
}

// Arguments, the unused capacity behind them and earlier results stay as they are, and results do not change each other.
func TestMemory(t *testing.T) {
	all := slices.Concat(list("a 5 ¯6 ↑ b"), list("unused ¯1 [ ←"))
	l := all[:5]
	if got := lex.Glue(l); got != "a 5 ¯6↑b" {
		t.Errorf("Glue = %s", short(got))
	}
	if !slices.Equal(all, slices.Concat(list("a 5 ¯6 ↑ b"), list("unused ¯1 [ ←"))) {
		t.Error("Glue changed its argument or the capacity behind it")
	}
	const s = "a ¯5,b"
	first, _ := lex.Tokens(s)
	second, _ := lex.Tokens(s)
	for i := range first[:cap(first)] {
		first[:cap(first)][i] = word("changed")
	}
	checkTokens(t, s, list("a ¯5 , b"))
	if !slices.Equal(second, list("a ¯5 , b")) {
		t.Error("two results share memory")
	}
}

func TestConcurrentCalls(t *testing.T) {
	done := make(chan string)
	for i := range 8 {
		go func() {
			text := ""
			for range 200 {
				l, _ := lex.Tokens("a" + strconv.Itoa(i) + " ¯5 ,\t" + strconv.Itoa(i))
				text = lex.Glue(l)
			}
			done <- text
		}()
	}
	var texts []string
	for range 8 {
		texts = append(texts, <-done)
	}
	slices.Sort(texts)
	for i, text := range texts {
		if want := "a" + strconv.Itoa(i) + " ¯5," + strconv.Itoa(i); text != want {
			t.Errorf("glued %s; want %s", short(text), short(want))
		}
	}
}

// Values that are no tokens of any text are left open; Glue only has to return.
func TestGlueOfOtherValues(t *testing.T) {
	texts := []string{"", " ", "a", "5", "↑", "\xff", "\n", "a b", "¯"}
	var some []lex.Token
	for _, kind := range []int{math.MinInt, -1, 0, 1, 2, 3, 4, math.MaxInt} {
		for _, text := range texts {
			some = append(some, lex.Token{Kind: kind, Text: text}, lex.Token{Kind: kind, Text: text, N: math.MinInt64})
		}
	}
	for _, a := range some {
		lex.Glue([]lex.Token{a})
		for _, b := range some {
			lex.Tokens(lex.Glue([]lex.Token{a, b, a}))
		}
	}
	lex.Glue(some)
}
