package trade_test

import (
	"strings"
	"testing"

	"clevis/api"
	"clevis/trade"
)

// texts are right trades, and theirs.
func texts() map[string]trade.Trade {
	return map[string]trade.Trade{
		"7 alfa beta US0378331005 10 250": right(),
		"1 a b GB0002634946 1 0":          {ID: 1, Buyer: "a", Seller: "b", Isin: bae, Qty: 1},
		"9223372036854775807 abcdefgh a1234567 US0378331005 2147483647 2147483647": {ID: most, Buyer: "abcdefgh", Seller: "a1234567", Isin: apple, Qty: over - 1, Price: over - 1},
		"1000000000000000000 b a US0378331005 100 7":                               {ID: 1e18, Buyer: "b", Seller: "a", Isin: apple, Qty: 100, Price: 7},
		"2147483648 z9 z GB0002634946 2000000000 1000000000":                       {ID: over, Buyer: "z9", Seller: "z", Isin: bae, Qty: 2e9, Price: 1e9},
	}
}

// parses holds what is told of a text against what must be; beside an error that is no trade.
func parses(t *testing.T, s string, want trade.Trade, e api.Errno) {
	t.Helper()
	for range 2 {
		if x, got := trade.Parse(s); x != want || got != e {
			t.Errorf("Parse(%.99q): %.99v, error %d; want %.99v, error %d", s, x, got, want, e)
		}
	}
}

// refuses holds what is told of a text that is no right trade's against what must be.
func refuses(t *testing.T, s string, e api.Errno) {
	t.Helper()
	parses(t, s, trade.Trade{}, e)
}

// P7.3, P7.4: right trades are told, and parsed as they were.
func TestTexts(t *testing.T) {
	for s, x := range texts() {
		for range 2 {
			if got := trade.Text(x); got != s {
				t.Errorf("Text(%v): %q; want %q", x, got, s)
			}
		}
		parses(t, s, x, api.OK)
	}
}

// P7.3: a trade that isn't right has a text, too.
func TestTextOfWrong(t *testing.T) {
	for s, x := range map[string]trade.Trade{
		"0    0 0": {},
		"-9223372036854775808 Alfa  us -1 9223372036854775807": {ID: least, Buyer: "Alfa", Isin: "us", Qty: -1, Price: most},
		"-1 a b\n \xff 2147483648 -9223372036854775808":        {ID: -1, Buyer: "a", Seller: "b\n", Isin: "\xff", Qty: over, Price: least},
		"0 a b c d e -7 -250":                                  {Buyer: "a b", Seller: "c", Isin: "d e", Qty: -7, Price: -250},
		"5 " + strings.Repeat("x", 100000) + "   1 1":          {ID: 5, Buyer: strings.Repeat("x", 100000), Qty: 1, Price: 1},
	} {
		if got := trade.Text(x); got != s {
			t.Errorf("Text(%.99v): %.99q; want %.99q", x, got, s)
		}
	}
}

// P7.3: trades that aren't right: Check's error is told of their texts.
func TestParseChecks(t *testing.T) {
	for _, x := range append(singles(), mixed()...) {
		if strings.Contains(x.t.Buyer+x.t.Seller+x.t.Isin, " ") {
			// Such a text has more pieces.
			refuses(t, trade.Text(x.t), api.ErrForm)
			continue
		}
		want := x.t
		if x.want != api.OK {
			want = trade.Trade{}
		}
		parses(t, trade.Text(x.t), want, x.want)
	}
}

// P7.3: texts that aren't six pieces, cut at each blank, whatever the pieces are.
func TestParsePieces(t *testing.T) {
	whole := "7 alfa beta US0378331005 10 250"
	for _, s := range []string{
		"", " ", "  ", "   ", "    ", "      ", "\n", "7", "7 ", "alfa", "7 alfa beta US0378331005 10",
		whole + " ", " " + whole, "  " + whole, whole + " 1", whole + " " + whole, "1 " + whole, whole + "\n" + whole,
		"7  alfa beta US0378331005 10 250", "7 alfa  beta US0378331005 10 250", "7 alfa beta  US0378331005 10 250", "7 alfa beta US0378331005  10 250", "7 alfa beta US0378331005 10  250",
		"7\talfa beta US0378331005 10 250", "7 alfa\nbeta US0378331005 10 250", "7\u00a0alfa beta US0378331005 10 250", "7alfa beta US0378331005 10 250",
		"0 alfa alfa US0378331006 10 250 1", "99999999999999999999 alfa beta US0378331005 10", "99999999999999999999",
		strings.Repeat(" ", 1000000), strings.Repeat("7 ", 1000000), strings.Repeat("7", 1000000), strings.ReplaceAll(whole, " ", ""), strings.ReplaceAll(whole, " ", "\t"), strings.ReplaceAll(whole, " ", "\n"),
	} {
		refuses(t, s, api.ErrForm)
	}
}

// P7.3: a piece may be empty: then it is no number's text, or Check's error is told.
func TestParseEmptyPieces(t *testing.T) {
	for s, want := range map[string]api.Errno{
		" alfa beta US0378331005 10 250":  api.ErrForm,
		"7 alfa beta US0378331005  250":   api.ErrForm,
		"7 alfa beta US0378331005 10 ":    api.ErrForm,
		"     ":                           api.ErrForm,
		"7  beta US0378331005 10 250":     api.ErrForm,
		"7 alfa  US0378331005 10 250":     api.ErrForm,
		"7 alfa beta  10 250":             api.ErrForm,
		"7    10 250":                     api.ErrForm,
		"0  beta US0378331005 10 250":     api.ErrArg,
		"0 alfa  US0378331005 10 250":     api.ErrArg,
		"0 alfa beta  10 250":             api.ErrArg,
		"0    0 0":                        api.ErrArg,
		"0  beta US0378331005 10 ":        api.ErrForm,
		"99999999999999999999    10 250":  api.ErrOver,
		"99999999999999999999     ":       api.ErrOver,
		" alfa beta US0378331005 10 1e99": api.ErrForm,
	} {
		refuses(t, s, want)
	}
}

// withNumbers is a text whose numbers are these.
func withNumbers(id, qty, price string) string {
	return id + " alfa beta US0378331005 " + qty + " " + price
}

// P7.3: numbers that aren't written as Parse of chapter 1 asks, in each place, ahead of all that Check asks.
func TestParseBadNumbers(t *testing.T) {
	for _, bad := range []string{
		"", "-", "+", "+7", "07", "00", "-0", "-07", "--7", "7-", "7.0", "7,0", "1e3", "0x7", "7_0", "seven", "a", "7\n", "\n7", "\t7", "7\x00", "\xff", "\u0667", "\uff17", "\u22127",
		"0" + strings.Repeat("9", 50), strings.Repeat("9", 50) + "x", "x" + strings.Repeat("9", 50), "-0" + strings.Repeat("0", 50), strings.Repeat("0", 100000), strings.Repeat("9", 100000) + ".",
	} {
		refuses(t, withNumbers(bad, "10", "250"), api.ErrForm)
		refuses(t, withNumbers("7", bad, "250"), api.ErrForm)
		refuses(t, withNumbers("7", "10", bad), api.ErrForm)
		refuses(t, withNumbers(bad, bad, bad), api.ErrForm)
		refuses(t, withNumbers("0", bad, "250"), api.ErrForm)
		refuses(t, withNumbers("0", "10", bad), api.ErrForm)
		refuses(t, bad+" alfa alfa US0378331006 0 -1", api.ErrForm)
		refuses(t, "7 alfa alfa US0378331005 0 "+bad, api.ErrForm)
		refuses(t, "7 alfa beta US0378331006 "+bad+" -1", api.ErrForm)
	}
}

// P7.3: numbers that don't fit 64 bits, in each place, ahead of all that Check asks; those that just fit are Check's.
func TestParseGreatNumbers(t *testing.T) {
	for _, great := range []string{
		"9223372036854775808", "-9223372036854775809", "18446744073709551615", "18446744073709551616", "18446744073709551623", "-18446744073709551609", "99999999999999999999",
		"170141183460469231731687303715884105727", "170141183460469231731687303715884105728", "-170141183460469231731687303715884105728", "-170141183460469231731687303715884105729",
		"340282366920938463463374607431768211456", "340282366920938463463374607431768211463", "1" + strings.Repeat("0", 64), "-" + strings.Repeat("9", 100000),
	} {
		refuses(t, withNumbers(great, "10", "250"), api.ErrOver)
		refuses(t, withNumbers("7", great, "250"), api.ErrOver)
		refuses(t, withNumbers("7", "10", great), api.ErrOver)
		refuses(t, withNumbers("0", great, great), api.ErrOver)
		refuses(t, great+" Alfa  US0378331006 0 -1", api.ErrOver)
		refuses(t, "0 alfa alfa x "+great+" 0", api.ErrOver)
		refuses(t, "0 alfa alfa x 0 "+great, api.ErrOver)
		refuses(t, withNumbers("7", "10", great)+" ", api.ErrForm)
	}
	for s, want := range map[string]api.Errno{
		withNumbers("-9223372036854775808", "10", "250"): api.ErrArg,
		withNumbers("-1", "10", "250"):                   api.ErrArg,
		withNumbers("0", "10", "250"):                    api.ErrArg,
		withNumbers("7", "9223372036854775807", "250"):   api.ErrLong,
		withNumbers("7", "-9223372036854775808", "250"):  api.ErrLong,
		withNumbers("7", "2147483648", "250"):            api.ErrLong,
		withNumbers("7", "0", "250"):                     api.ErrLong,
		withNumbers("7", "10", "9223372036854775807"):    api.ErrLong,
		withNumbers("7", "10", "-9223372036854775808"):   api.ErrLong,
		withNumbers("7", "10", "-1"):                     api.ErrLong,
	} {
		refuses(t, s, want)
	}
}

// P7.3: of the numbers all that is asked of one is asked ahead of what is asked of those behind it.
func TestParseNumbersOrder(t *testing.T) {
	bad, great := "07", "9223372036854775808"
	refuses(t, withNumbers(bad, great, "250"), api.ErrForm)
	refuses(t, withNumbers(bad, "10", great), api.ErrForm)
	refuses(t, withNumbers("7", bad, great), api.ErrForm)
	refuses(t, withNumbers(great, bad, "250"), api.ErrOver)
	refuses(t, withNumbers(great, "10", bad), api.ErrOver)
	refuses(t, withNumbers("7", great, bad), api.ErrOver)
}
