package trade_test

import (
	"math/big"
	"math/rand"
	"regexp"
	"strings"
	"testing"

	"clevis/api"
	"clevis/ident"
	"clevis/octet"
	"clevis/trade"
)

var (
	name   = regexp.MustCompile(`^[a-z][a-z0-9]{0,7}$`)
	number = regexp.MustCompile(`^(0|-?[1-9][0-9]*)$`)
)

// plainCheck is what Check must tell.
func plainCheck(t trade.Trade) api.Errno {
	switch {
	case t.ID <= 0:
		return api.ErrArg
	case !name.MatchString(t.Buyer):
		return api.ErrForm
	case !name.MatchString(t.Seller):
		return api.ErrForm
	case ident.Isin(t.Isin) != api.OK:
		return ident.Isin(t.Isin)
	case t.Buyer == t.Seller:
		return api.ErrTwice
	case t.Qty <= 0 || t.Qty > 2147483647:
		return api.ErrLong
	case t.Price < 0 || t.Price > 2147483647:
		return api.ErrLong
	}
	return api.OK
}

// plainParse is what Parse must tell.
func plainParse(s string) (trade.Trade, api.Errno) {
	if strings.Count(s, " ") != 5 {
		return trade.Trade{}, api.ErrForm
	}
	l := strings.Split(s, " ")
	var n [6]int64
	for _, at := range []int{0, 4, 5} {
		if !number.MatchString(l[at]) {
			return trade.Trade{}, api.ErrForm
		}
		great, _ := new(big.Int).SetString(l[at], 10)
		if !great.IsInt64() {
			return trade.Trade{}, api.ErrOver
		}
		n[at] = great.Int64()
	}
	t := trade.Trade{ID: n[0], Buyer: l[1], Seller: l[2], Isin: l[3], Qty: n[4], Price: n[5]}
	if e := plainCheck(t); e != api.OK {
		return trade.Trade{}, e
	}
	return t, api.OK
}

// plainTotal is what Total must tell: the empty text, if it doesn't fit.
func plainTotal(l ...trade.Trade) string {
	sum := new(big.Int)
	for _, t := range l {
		sum.Add(sum, new(big.Int).Mul(big.NewInt(t.Qty), big.NewInt(t.Price)))
	}
	edge := new(big.Int).Lsh(big.NewInt(1), 127)
	if sum.Cmp(edge) >= 0 || sum.Cmp(edge.Neg(edge)) < 0 {
		return ""
	}
	return sum.String()
}

// plainGet is what Get must read of b, how many bytes must be left then, and the mistake.
func plainGet(b []byte) (trade.Trade, int, api.Errno) {
	r := octet.Read(b)
	var t trade.Trade
	for _, read := range []func(){
		func() { t.ID = r.Number() },
		func() { t.Buyer = r.Text(12) },
		func() { t.Seller = r.Text(12) },
		func() { t.Isin = r.Text(12) },
		func() { t.Qty = r.Number() },
		func() { t.Price = r.Number() },
	} {
		read()
		if r.Ok() {
			continue
		}
		return trade.Trade{}, r.Rest(), r.Done()
	}
	if e := plainCheck(t); e != api.OK {
		return trade.Trade{}, r.Rest(), e
	}
	return t, r.Rest(), api.OK
}

// holds asks all of a trade by which it is told, written and compared.
func holds(t *testing.T, x trade.Trade) {
	t.Helper()
	want := plainCheck(x)
	if e := trade.Check(x); e != want {
		t.Fatalf("Check(%v): error %d; want %d", x, e, want)
	}
	s := trade.Text(x)
	back, e := trade.Parse(s)
	if want == api.OK && (back != x || e != api.OK) {
		t.Fatalf("%v is told as %q, and parsed as %v, error %d", x, s, back, e)
	}
	holdsText(t, s)
	b := put(t, x)
	if want == api.OK {
		gets(t, b, octet.Read([]byte(b)), x, 0, api.OK)
	}
	holdsBytes(t, []byte(b))
	if trade.Compare(x, x) != 0 || trade.Compare(x, back) != -trade.Compare(back, x) || (trade.Compare(x, back) == 0) != (x == back) {
		t.Fatalf("Compare of %v and %v: %d, %d", x, back, trade.Compare(x, back), trade.Compare(back, x))
	}
	totals(t, plainTotal(x), x)
	totals(t, plainTotal(x, x, x), x, x, x)
}

// holdsText holds what is parsed against what must be: a text that is a trade's is that trade's alone.
func holdsText(t *testing.T, s string) {
	t.Helper()
	want, e := plainParse(s)
	parses(t, s, want, e)
	if e == api.OK && trade.Text(want) != s {
		t.Fatalf("%q is parsed, and told as %q", s, trade.Text(want))
	}
}

// holdsBytes holds what is read against what must be: bytes that are a trade's are that trade's alone.
func holdsBytes(t *testing.T, b []byte) {
	t.Helper()
	want, left, e := plainGet(b)
	gets(t, string(b), octet.Read(b), want, left, e)
	if e == api.OK && put(t, want) != string(b[:len(b)-left]) {
		t.Fatalf("%q is read, and written as %q", b, put(t, want))
	}
}

// chanced is a trade by chance, of which many parts are right.
func chanced(chance *rand.Rand) trade.Trade {
	names := []string{"a", "b", "alfa", "beta", "abcdefgh", "a1", "abcdefghi", "", "A", "1a", "a b", "abcdefghijkl", "abcdefghijklm"}
	isins := []string{apple, bae, apple, bae, "US0378331006", "", "us", "GB0002634946 "}
	numbers := []int64{0, 1, -1, 2, 63, 64, -64, -65, over - 1, over, over + 1, most, least, int64(chance.Uint64()), chance.Int63() >> chance.Intn(63)}
	one := func() int64 {
		if chance.Intn(2) == 0 {
			return 1 + chance.Int63n(over-1)
		}
		return numbers[chance.Intn(len(numbers))]
	}
	return trade.Trade{ID: one(), Buyer: names[chance.Intn(len(names))], Seller: names[chance.Intn(len(names))], Isin: isins[chance.Intn(len(isins))], Qty: one(), Price: one()}
}

// bent is s with a byte that is put in, taken out or another one.
func bent(chance *rand.Rand, s, bytes string) string {
	at := chance.Intn(len(s))
	by := bytes[chance.Intn(len(bytes)):][:1]
	switch chance.Intn(3) {
	case 0:
		return s[:at] + by + s[at:]
	case 1:
		return s[:at] + s[at+1:]
	}
	return s[:at] + by + s[at+1:]
}

// P7.1 to P7.4, P2: trades by chance, and their texts and bytes, bent by chance; the seed is fixed, so that they are the same each time.
func TestChance(t *testing.T) {
	chance := rand.New(rand.NewSource(7))
	var last trade.Trade
	for range 20000 {
		x := chanced(chance)
		holds(t, x)
		holdsText(t, bent(chance, trade.Text(x), " 0123456789-abAB\n"))
		holdsBytes(t, []byte(bent(chance, put(t, x), "\x00\x01\x02\x04\x0c\x0d\x0e\x80\xff\x7fab")))
		totals(t, plainTotal(x, last), x, last)
		last = x
	}
}

// P1, P7.1 to P7.4: whatever is handed in, each call ends, and tells what it must.
func FuzzTrades(f *testing.F) {
	f.Add(int64(7), "alfa", "beta", apple, int64(10), int64(250))
	f.Add(int64(0), "", "", "", int64(0), int64(0))
	f.Add(int64(least), "a b", "abcdefghijklm", "US0378331006", int64(least), int64(most))
	f.Fuzz(func(t *testing.T, id int64, buyer, seller, isin string, qty, price int64) {
		if len(buyer)+len(seller)+len(isin) > 100000 {
			return
		}
		holds(t, trade.Trade{ID: id, Buyer: buyer, Seller: seller, Isin: isin, Qty: qty, Price: price})
	})
}

// P1, P7.2 to P7.4: whatever the text and the bytes are.
func FuzzTexts(f *testing.F) {
	f.Add("")
	f.Add(rightBytes)
	f.Add(trade.Text(right()))
	f.Add("07 alfa beta US0378331005 10 250")
	f.Add("9223372036854775808 alfa beta US0378331005 10 1x")
	f.Fuzz(func(t *testing.T, s string) {
		holdsText(t, s)
		holdsBytes(t, []byte(s))
	})
}
