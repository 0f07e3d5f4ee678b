package note_test

import (
	"math"
	"slices"
	"strconv"
	"strings"
	"testing"

	"clevis/api"
	"clevis/fixed"
	"clevis/ident"
	"clevis/note"
	"clevis/trade"
)

const (
	apple = "US0378331005"
	bae   = "GB0002634946"
	bayer = "DE000BAY0017"
	most  = math.MaxInt64
	least = math.MinInt64
	over  = 1 << 31 // the least price, and the least money, that is too great
)

// The parts of a note, in the order of their bytes.
const (
	peer = iota
	day
	deal
	name
	amount
	rows
	cash
)

// words are the kinds' words, by their kinds.
func words() []string {
	return []string{"", "accept", "cut", "price", "settle", "post", "call", "answer", "stop", "leg", "mark", "report", "halt"}
}

// asks are the parts that the kind asks for, in order.
func asks(kind int) []int {
	return [][]int{
		{}, {deal}, {}, {name, amount}, {day}, {name, amount}, {name, amount}, {name}, {peer}, {peer, day, deal}, {peer, day, rows}, {peer, day, rows, cash}, {peer},
	}[kind]
}

// noKinds are numbers that are no kind's.
func noKinds() []int {
	return []int{0, 13, -1, 14, -2, -12, 15, 16, 127, 128, 255, 256, 257, 1<<8 + 9, 1 << 32, 1<<32 + 1, most, least}
}

// sold is a right trade.
func sold() trade.Trade {
	return trade.Trade{ID: 7, Buyer: "alfa", Seller: "beta", Isin: apple, Qty: 10, Price: 250}
}

// row is a row.
func row(name string, n int64) note.Row { return note.Row{Name: name, N: n} }

// shares are so many ISINs, rising.
func shares(n int) []string {
	var l []string
	for i := range n {
		isin, _ := ident.Make("US" + strconv.Itoa(100000000+i*7654321))
		l = append(l, isin)
	}
	return l
}

// listed are so many rows, rising, with those numbers by turns.
func listed(n int, numbers ...int64) []note.Row {
	var l []note.Row
	for i, isin := range shares(n) {
		l = append(l, row(isin, numbers[i%len(numbers)]))
	}
	return l
}

// right is a right note of that kind, changed by each of turns.
func right(kind int, turns ...turn) note.Note {
	n := []note.Note{
		{},
		{Trade: sold()},
		{},
		{Name: apple, Amount: 250},
		{Day: 3},
		{Name: "alfa", Amount: 9},
		{Name: "alfa", Amount: 1},
		{Name: "alfa"},
		{Peer: 2},
		{Peer: 1, Day: 4, Trade: sold()},
		{Day: 500, Rows: []note.Row{row(bae, 0), row(apple, 7)}},
		{Peer: 1, Day: 1, Rows: []note.Row{row(bae, -5), row(apple, 7)}, Cash: fixed.Wide{Hi: -1, Lo: 3}},
		{Peer: 1},
	}[kind]
	n.Kind = kind
	for _, turn := range turns {
		turn(&n)
	}
	return n
}

// turn changes a note.
type turn func(n *note.Note)

func toPeer(p int) turn                 { return func(n *note.Note) { n.Peer = p } }
func toDay(d int) turn                  { return func(n *note.Note) { n.Day = d } }
func toTrade(t trade.Trade) turn        { return func(n *note.Note) { n.Trade = t } }
func toName(s string) turn              { return func(n *note.Note) { n.Name = s } }
func toAmount(a int64) turn             { return func(n *note.Note) { n.Amount = a } }
func toRows(l ...note.Row) turn         { return func(n *note.Note) { n.Rows = l } }
func toCash(c fixed.Wide) turn          { return func(n *note.Note) { n.Cash = c } }
func dealt(f func(t *trade.Trade)) turn { return func(n *note.Note) { f(&n.Trade) } }

// copied is n with Rows of its own.
func copied(n note.Note) note.Note {
	n.Rows = slices.Clone(n.Rows)
	return n
}

// same tells, by each part, whether two notes are the same.
func same(a, b note.Note) bool {
	return a.Kind == b.Kind && a.Peer == b.Peer && a.Day == b.Day && a.Trade == b.Trade && a.Name == b.Name && a.Amount == b.Amount && slices.Equal(a.Rows, b.Rows) && a.Cash == b.Cash
}

// rights are right notes of all kinds, at the edges of what may be.
func rights() []note.Note {
	var l []note.Note
	add := func(kind int, turns ...turn) { l = append(l, right(kind, turns...)) }
	great := trade.Trade{ID: most, Buyer: "abcdefgh", Seller: "a1234567", Isin: bae, Qty: over - 1, Price: over - 1}
	small := trade.Trade{ID: 1, Buyer: "a", Seller: "b", Isin: bayer, Qty: 1}
	for kind := note.Accept; kind <= note.Halt; kind++ {
		add(kind)
		add(kind, func(n *note.Note) { n.Rows = slices.Concat([]note.Row{}, n.Rows) })
		for _, part := range asks(kind) {
			switch part {
			case peer:
				add(kind, toPeer(0))
				add(kind, toPeer(1))
				add(kind, toPeer(2))
			case day:
				for _, d := range []int{1, 2, 63, 64, 127, 128, 300, 499, 500} {
					add(kind, toDay(d))
				}
			case deal:
				add(kind, toTrade(great))
				add(kind, toTrade(small))
			case rows:
				for _, many := range []int{0, 1, 2, 31, 32} {
					add(kind, toRows(listed(many, 0, 1, 250, over-1)...))
				}
			case cash:
				for _, c := range []fixed.Wide{{}, fixed.Of(1), fixed.Of(-1), {Hi: most, Lo: math.MaxUint64}, {Hi: least}, {Lo: 1 << 63}, {Hi: 1}} {
					add(kind, toCash(c))
				}
			}
		}
	}
	for _, n := range []int64{0, 1, 2, 63, 64, over - 2, over - 1} {
		add(note.Price, toAmount(n))
		add(note.Mark, toRows(row(bae, n)))
		if n > 0 {
			add(note.Post, toAmount(n))
			add(note.Call, toAmount(n))
		}
	}
	add(note.Report, toRows(listed(32, least, -1, 0, 1, over, most)...))
	add(note.Report, toRows(row(bae, least)), toCash(fixed.Wide{}))
	for _, s := range []string{"a", "z", "abcdefgh", "a0", "z9z9z9z9"} {
		add(note.Post, toName(s))
		add(note.Call, toName(s))
		add(note.Answer, toName(s))
	}
	add(note.Price, toName(bae))
	add(note.Price, toName(bayer))
	return l
}

// checks holds what Check tells of n against what must be, twice, and that n stays as it was.
func checks(t *testing.T, n note.Note, want api.Errno) {
	t.Helper()
	before := copied(n)
	for range 2 {
		if e := note.Check(n); e != want {
			t.Errorf("Check of %.300s: error %d; want %d", told(n), e, want)
		}
	}
	if !same(n, before) {
		t.Errorf("Check changed %.300s: %.300s", told(before), told(n))
	}
}

// told is n as a text, for what a test says.
func told(n note.Note) string {
	var b strings.Builder
	b.WriteString("kind " + strconv.Itoa(n.Kind) + ", peer " + strconv.Itoa(n.Peer) + ", day " + strconv.Itoa(n.Day) + ", trade " + strconv.Quote(trade.Text(n.Trade)))
	b.WriteString(", name " + strconv.Quote(n.Name) + ", amount " + strconv.FormatInt(n.Amount, 10) + ", cash " + fixed.Text(n.Cash) + ", rows")
	for _, r := range n.Rows[:min(len(n.Rows), 40)] {
		b.WriteString(" " + strconv.Quote(r.Name) + ":" + strconv.FormatInt(r.N, 10))
	}
	return b.String()
}

// P9.1: right notes of each kind.
func TestCheckRight(t *testing.T) {
	met := map[int]int{}
	for _, n := range rights() {
		checks(t, n, api.OK)
		met[n.Kind]++
	}
	if len(met) != 12 {
		t.Errorf("of %d kinds", len(met))
	}
}

// P9.1: kinds that are none, whatever else the note has.
func TestCheckKinds(t *testing.T) {
	for _, kind := range noKinds() {
		checks(t, note.Note{Kind: kind}, api.ErrArg)
		for of := note.Accept; of <= note.Halt; of++ {
			checks(t, right(of, func(n *note.Note) { n.Kind = kind }), api.ErrArg)
		}
		checks(t, note.Note{Kind: kind, Peer: 3, Day: 501, Name: "A", Amount: -1}, api.ErrArg)
	}
	checks(t, note.Note{}, api.ErrArg)
}

// things are changes by which a note has one part, each part in several ways, right and wrong.
func things() [][]turn {
	wide := []turn{toCash(fixed.Wide{Hi: 1}), toCash(fixed.Wide{Lo: 1}), toCash(fixed.Of(-1)), toCash(fixed.Wide{Hi: least})}
	return [][]turn{
		peer: {toPeer(1), toPeer(2), toPeer(3), toPeer(-1), toPeer(256), toPeer(1 << 32), toPeer(most), toPeer(least)},
		day:  {toDay(1), toDay(500), toDay(501), toDay(-1), toDay(1 << 32), toDay(most), toDay(least)},
		deal: {
			toTrade(sold()), toTrade(trade.Trade{ID: 1}), toTrade(trade.Trade{ID: -1}), toTrade(trade.Trade{Buyer: "a"}), toTrade(trade.Trade{Seller: "b"}),
			toTrade(trade.Trade{Isin: apple}), toTrade(trade.Trade{Qty: 1}), toTrade(trade.Trade{Price: 1}), toTrade(trade.Trade{Price: least}),
		},
		name:   {toName("alfa"), toName(apple), toName(" "), toName("\x00"), toName(strings.Repeat("x", 100000))},
		amount: {toAmount(1), toAmount(-1), toAmount(over), toAmount(1 << 32), toAmount(most), toAmount(least)},
		rows:   {toRows(row(apple, 1)), toRows(row("", 0)), toRows(row(apple, 0), row(apple, 0)), toRows(listed(32, 1)...), toRows(make([]note.Row, 33)...), toRows(make([]note.Row, 100000)...)},
		cash:   wide,
	}
}

// P9.1: each kind with one thing that it doesn't ask for, each thing by itself; that goes ahead of all that is wrong with what it asks for.
func TestCheckUnasked(t *testing.T) {
	for kind := note.Accept; kind <= note.Halt; kind++ {
		for part, turns := range things() {
			if slices.Contains(asks(kind), part) {
				continue
			}
			for _, turn := range turns {
				checks(t, right(kind, turn), api.ErrArg)
				bare := note.Note{Kind: kind}
				turn(&bare)
				checks(t, bare, api.ErrArg)
				for _, wrong := range mistakes(kind) {
					checks(t, right(kind, turn, wrong.turn), api.ErrArg)
				}
			}
		}
		// Rows that are empty are none.
		checks(t, right(kind, func(n *note.Note) { n.Rows = append([]note.Row{}, n.Rows...) }), api.OK)
	}
	checks(t, note.Note{Kind: note.Cut, Day: 1}, api.ErrArg)
	checks(t, note.Note{Kind: note.Cut, Rows: []note.Row{}}, api.OK)
	checks(t, note.Note{Kind: note.Cut, Rows: make([]note.Row, 0, 33)}, api.OK)
}

// mistake is a change by which one part is wrong, and by which error.
type mistake struct {
	part int
	turn turn
	want api.Errno
}

// mistakes are those that a note of that kind may have of what the kind asks for; of one part those that are named first are first.
func mistakes(kind int) []mistake {
	var l []mistake
	for _, part := range asks(kind) {
		for _, m := range wrongs(kind, part) {
			l = append(l, mistake{part, m.turn, m.want})
		}
	}
	return l
}

// wrongs are the mistakes that the part of a note of that kind may have.
func wrongs(kind, part int) []mistake {
	var l []mistake
	add := func(want api.Errno, turn turn) { l = append(l, mistake{part, turn, want}) }
	switch part {
	case peer:
		for _, p := range []int{-1, 3, 4, -2, -3, 255, 256, 257, 1 << 32, 1<<32 + 1, most, least} {
			add(api.ErrName, toPeer(p))
		}
	case day:
		for _, d := range []int{0, 501, -1, 502, 1000, 512, 1 << 32, 1<<32 + 1, most, least} {
			add(api.ErrLong, toDay(d))
		}
	case deal:
		return wrongTrades()
	case name:
		return wrongNames(kind)
	case amount:
		for _, n := range []int64{-1, over, over + 1, -over, 1 << 32, 1<<32 + 1, most, least} {
			add(api.ErrLong, toAmount(n))
		}
		if kind != note.Price {
			add(api.ErrLong, toAmount(0))
		}
	case rows:
		return wrongRows(kind)
	}
	return l
}

// wrongTrades are trades that aren't right, by each of Check's errors.
func wrongTrades() []mistake {
	var l []mistake
	add := func(want api.Errno, f func(t *trade.Trade)) { l = append(l, mistake{deal, dealt(f), want}) }
	l = append(l, mistake{deal, toTrade(trade.Trade{}), api.ErrArg})
	add(api.ErrArg, func(t *trade.Trade) { t.ID = 0 })
	add(api.ErrArg, func(t *trade.Trade) { t.ID = -1 })
	add(api.ErrForm, func(t *trade.Trade) { t.Buyer = "A" })
	add(api.ErrForm, func(t *trade.Trade) { t.Seller = "" })
	add(api.ErrForm, func(t *trade.Trade) { t.Isin = "x" })
	add(api.ErrSum, func(t *trade.Trade) { t.Isin = "US0378331006" })
	add(api.ErrTwice, func(t *trade.Trade) { t.Seller = t.Buyer })
	add(api.ErrLong, func(t *trade.Trade) { t.Qty = 0 })
	add(api.ErrLong, func(t *trade.Trade) { t.Qty = over })
	add(api.ErrLong, func(t *trade.Trade) { t.Price = -1 })
	add(api.ErrLong, func(t *trade.Trade) { t.Price = over })
	return l
}

// wrongNames are names that a note of that kind may not have, by each of Isin's, or Member's, errors.
func wrongNames(kind int) []mistake {
	var l []mistake
	add := func(want api.Errno, names ...string) {
		for _, s := range names {
			l = append(l, mistake{name, toName(s), want})
		}
	}
	if kind == note.Price {
		add(api.ErrForm, "", "alfa", "US037833100", apple+"5", "us0378331005", "US037833100A", " "+apple, strings.Repeat("A", 100000))
		add(api.ErrSum, "US0378331006", "US0378331000", "GB0002634940")
		return l
	}
	add(api.ErrForm, "", "A", "Alfa", "1a", "abcdefghi", "a-b", " alfa", "alfa ", "alfa\n", "\xff", apple, strings.Repeat("a", 12), strings.Repeat("a", 100000))
	return l
}

// wrongRows are Rows that a note of that kind may not have, those that are named first ahead.
func wrongRows(kind int) []mistake {
	var l []mistake
	add := func(want api.Errno, r ...note.Row) { l = append(l, mistake{rows, toRows(r...), want}) }
	add(api.ErrLong, listed(33, 1)...)
	add(api.ErrLong, make([]note.Row, 33)...)
	add(api.ErrLong, make([]note.Row, 100000)...)
	for _, at := range []int{0, 1, 15, 31} {
		for s, want := range map[string]api.Errno{"": api.ErrForm, "alfa": api.ErrForm, apple + "5": api.ErrForm, "us0378331005": api.ErrForm, "US0378331006": api.ErrSum} {
			bad := listed(32, 1)
			bad[at].Name = s
			add(want, bad...)
		}
	}
	add(api.ErrForm, row("", 0))
	add(api.ErrSum, row("US0378331006", 0))
	add(api.ErrOrder, row(apple, 7), row(bae, 7))
	add(api.ErrOrder, row(apple, 7), row(apple, 7))
	add(api.ErrOrder, row(apple, 7), row(apple, 8))
	for _, at := range []int{0, 1, 15, 30} {
		fall, twice := listed(32, 1), listed(32, 1)
		fall[at], fall[at+1] = fall[at+1], fall[at]
		twice[at+1].Name = twice[at].Name
		add(api.ErrOrder, fall...)
		add(api.ErrOrder, twice...)
	}
	if kind != note.Mark {
		return l
	}
	for _, n := range []int64{-1, over, over + 1, 1 << 32, 1<<32 + 1, most, least} {
		add(api.ErrLong, row(apple, n))
		for _, at := range []int{0, 1, 15, 31} {
			dear := listed(32, 0, 1, over-1)
			dear[at].N = n
			add(api.ErrLong, dear...)
		}
	}
	return l
}

// P9.1: each mistake by itself, of each kind.
func TestCheckWrong(t *testing.T) {
	for kind := note.Accept; kind <= note.Halt; kind++ {
		for _, m := range mistakes(kind) {
			checks(t, right(kind, m.turn), m.want)
		}
	}
	for _, kind := range []int{note.Stop, note.Leg, note.Mark, note.Report, note.Halt} {
		for p, want := range map[int]api.Errno{-1: api.ErrName, 0: api.OK, 1: api.OK, 2: api.OK, 3: api.ErrName} {
			checks(t, right(kind, toPeer(p)), want)
		}
	}
	for _, kind := range []int{note.Settle, note.Leg, note.Mark, note.Report} {
		for d, want := range map[int]api.Errno{-1: api.ErrLong, 0: api.ErrLong, 1: api.OK, 500: api.OK, 501: api.ErrLong} {
			checks(t, right(kind, toDay(d)), want)
		}
	}
	for n, want := range map[int64]api.Errno{-1: api.ErrLong, 0: api.OK, 1: api.OK, over - 1: api.OK, over: api.ErrLong} {
		checks(t, right(note.Price, toAmount(n)), want)
		checks(t, right(note.Mark, toRows(row(apple, n))), want)
		checks(t, right(note.Report, toRows(row(apple, n))), api.OK)
		if n == 0 {
			want = api.ErrLong
		}
		checks(t, right(note.Post, toAmount(n)), want)
		checks(t, right(note.Call, toAmount(n)), want)
	}
}

// P9.1: of mistakes of two parts, or of all, that of the part whose bytes are first is told.
func TestCheckOrder(t *testing.T) {
	for kind := note.Accept; kind <= note.Halt; kind++ {
		l := mistakes(kind)
		for _, m := range l {
			var all []turn
			for _, other := range l {
				if other.part > m.part {
					checks(t, right(kind, m.turn, other.turn), m.want)
					all = append(all, other.turn)
				}
			}
			checks(t, right(kind, append(all, m.turn)...), m.want)
		}
	}
}

// P9.1: of two mistakes of a note's Rows the one that is named first: too many, a name, the order, a mark's price.
func TestCheckRowsOrder(t *testing.T) {
	bad, sum := "x", "US0378331006"
	for _, kind := range []int{note.Mark, note.Report} {
		for _, x := range []struct {
			want api.Errno
			rows []note.Row
		}{
			{api.ErrForm, []note.Row{row(bad, 1), row(sum, 1)}},
			{api.ErrSum, []note.Row{row(sum, 1), row(bad, 1)}},
			{api.ErrForm, []note.Row{row(bad, 1), row(bad, 1)}},
			{api.ErrSum, []note.Row{row(sum, -1)}},
			{api.ErrSum, []note.Row{row(apple, 1), row(bae, 1), row(sum, 1)}},
			{api.ErrForm, []note.Row{row(apple, 1), row(apple, 1), row(bad, 1)}},
			{api.ErrForm, []note.Row{row(apple, 1), row(bad, 1), row(bae, 1), row(sum, 1)}},
			{api.ErrSum, []note.Row{row(apple, -1), row(sum, 1)}},
			{api.ErrOrder, []note.Row{row(apple, -1), row(bae, 1)}},
			{api.ErrOrder, []note.Row{row(bae, over), row(apple, 1), row(apple, 1)}},
			{api.ErrOrder, []note.Row{row(apple, 1), row(apple, -1)}},
		} {
			checks(t, right(kind, toRows(x.rows...)), x.want)
		}
		for _, r := range [][]note.Row{listed(33, -1), slices.Repeat([]note.Row{row(apple, 1)}, 33), slices.Repeat([]note.Row{row(sum, -1)}, 33)} {
			checks(t, right(kind, toRows(r...)), api.ErrLong)
			slices.Reverse(r)
			checks(t, right(kind, toRows(r...)), api.ErrLong)
		}
	}
}

// P9.3: the same notes, and Rows nil and empty.
func TestEqual(t *testing.T) {
	odd := note.Note{Kind: -5, Peer: 99, Day: -1, Trade: trade.Trade{Buyer: "x"}, Name: "y", Amount: least, Rows: []note.Row{{}, {}}, Cash: fixed.Of(-2)}
	for _, n := range append(rights(), note.Note{}, odd) {
		equals(t, n, copied(n), true)
		equals(t, n, n, true)
	}
	for _, n := range []note.Note{{}, {Kind: note.Cut}, right(note.Leg), right(note.Mark, toRows())} {
		empty := copied(n)
		empty.Rows = []note.Row{}
		room := copied(n)
		room.Rows = make([]note.Row, 0, 9)
		n.Rows = nil
		equals(t, n, empty, true)
		equals(t, n, room, true)
		equals(t, empty, room, true)
		room.Rows = room.Rows[:1]
		equals(t, n, room, false)
	}
}

// equals holds what Equal tells of a and b, both ways round, and that they stay as they were.
func equals(t *testing.T, a, b note.Note, want bool) {
	t.Helper()
	before := [2]note.Note{copied(a), copied(b)}
	if one, other := note.Equal(a, b), note.Equal(b, a); one != want || other != want {
		t.Errorf("Equal of %.300s and %.300s: %v, %v; want %v", told(a), told(b), one, other, want)
	}
	if !same(a, before[0]) || !same(b, before[1]) {
		t.Errorf("Equal changed %.300s, %.300s", told(before[0]), told(before[1]))
	}
}

// P9.3: notes that differ in one part alone, in each part.
func TestEqualDiffers(t *testing.T) {
	whole := note.Note{Kind: 9, Peer: 1, Day: 4, Trade: sold(), Name: "alfa", Amount: 9, Rows: []note.Row{row(bae, -5), row(apple, 7)}, Cash: fixed.Wide{Hi: -1, Lo: 3}}
	turns := []turn{
		func(n *note.Note) { n.Kind = 10 }, func(n *note.Note) { n.Kind = -9 }, func(n *note.Note) { n.Kind = 0 },
		toPeer(0), toPeer(2), toPeer(1 + 1<<32), toDay(0), toDay(3), toDay(4 + 1<<32), toTrade(trade.Trade{}),
		dealt(func(t *trade.Trade) { t.ID++ }), dealt(func(t *trade.Trade) { t.Buyer = "alf" }), dealt(func(t *trade.Trade) { t.Seller = "betb" }),
		dealt(func(t *trade.Trade) { t.Isin = bae }), dealt(func(t *trade.Trade) { t.Qty-- }), dealt(func(t *trade.Trade) { t.Price++ }),
		toName(""), toName("alfb"), toName("alfaa"), toName("alf"), toName("Alfa"), toAmount(0), toAmount(-9), toAmount(9 + 1<<32),
		toRows(), toRows(row(bae, -5)), toRows(row(apple, 7)), toRows(row(apple, 7), row(bae, -5)), toRows(row(bae, -5), row(apple, 8)), toRows(row(bae, 5), row(apple, 7)),
		toRows(row(bae, -5), row("US0378331006", 7)), toRows(row("", -5), row(apple, 7)), toRows(row(bae, -5), row(apple, 7), row("", 0)), toRows(row("", 0), row(bae, -5), row(apple, 7)),
		toCash(fixed.Wide{}), toCash(fixed.Wide{Hi: -1, Lo: 2}), toCash(fixed.Wide{Lo: 3}), toCash(fixed.Wide{Hi: 1, Lo: 3}), toCash(fixed.Of(3)),
	}
	for i, one := range turns {
		a := copied(whole)
		one(&a)
		equals(t, whole, a, false)
		for j, other := range turns {
			b := copied(whole)
			other(&b)
			equals(t, a, b, i == j || same(a, b))
		}
	}
	for kind := note.Accept; kind <= note.Halt; kind++ {
		for _, l := range things() {
			for _, turn := range l {
				a, b := note.Note{Kind: kind}, note.Note{Kind: kind}
				turn(&b)
				equals(t, a, b, false)
			}
		}
	}
}

// P9.3: messages are those of the last four kinds, whatever they have.
func TestMessage(t *testing.T) {
	for kind := note.Accept; kind <= note.Halt; kind++ {
		want := kind == note.Leg || kind == note.Mark || kind == note.Report || kind == note.Halt
		for _, n := range []note.Note{right(kind), {Kind: kind}, right(kind, toPeer(9), toDay(-1), toRows(row("x", 0), row("x", 0)))} {
			before := copied(n)
			if note.Message(n) != want || !same(n, before) {
				t.Errorf("Message of %.300s: %v", told(n), !want)
			}
		}
	}
	for _, kind := range noKinds() {
		if note.Message(note.Note{Kind: kind}) || note.Message(right(note.Leg, func(n *note.Note) { n.Kind = kind })) {
			t.Errorf("kind %d is a message's", kind)
		}
	}
}

// P9.3: each kind's word, and its number; of what is none there is no word.
func TestWord(t *testing.T) {
	numbers := []int{0, note.Accept, note.Cut, note.Price, note.Settle, note.Post, note.Call, note.Answer, note.Stop, note.Leg, note.Mark, note.Report, note.Halt}
	for kind, want := range words() {
		if numbers[kind] != kind {
			t.Errorf("%q is the kind %d; want %d", want, numbers[kind], kind)
		}
		for range 2 {
			if s := note.Word(kind); s != want {
				t.Errorf("Word(%d): %q; want %q", kind, s, want)
			}
		}
	}
	for _, kind := range noKinds() {
		if s := note.Word(kind); s != "" {
			t.Errorf("Word(%d): %q", kind, s)
		}
	}
}

// P9.3: names that rise, fall, or are there twice; the numbers don't matter, nor what the names are.
func TestSorted(t *testing.T) {
	for _, x := range []struct {
		names []string
		want  bool
	}{
		{nil, true}, {[]string{}, true}, {[]string{""}, true}, {[]string{"b"}, true},
		{[]string{"a", "b"}, true}, {[]string{"b", "a"}, false}, {[]string{"a", "a"}, false}, {[]string{"", ""}, false}, {[]string{"", "a"}, true}, {[]string{"a", ""}, false},
		{[]string{"a", "b", "c"}, true}, {[]string{"a", "c", "b"}, false}, {[]string{"b", "a", "c"}, false}, {[]string{"c", "b", "a"}, false},
		{[]string{"a", "b", "b"}, false}, {[]string{"a", "a", "b"}, false}, {[]string{"a", "b", "a"}, false},
		{[]string{"A", "a"}, true}, {[]string{"a", "A"}, false}, {[]string{"a", "aa"}, true}, {[]string{"aa", "a"}, false}, {[]string{"a10", "a9"}, true}, {[]string{"a9", "a10"}, false},
		{[]string{"z", "\u00e4", "\xff"}, true}, {[]string{"\xff", "z"}, false}, {[]string{"a", "a\x00"}, true}, {[]string{"a", "b", "c", "d", "e", "e"}, false},
		{shares(33), true}, {append(shares(32), shares(1)...), false}, {[]string{bayer, bae, apple}, true}, {[]string{bae, bayer, apple}, false},
	} {
		for _, step := range []int64{0, 1, -1} {
			var l []note.Row
			for i, name := range x.names {
				l = append(l, row(name, step*int64(i)))
			}
			before := slices.Clone(l)
			for range 2 {
				if note.Sorted(l...) != x.want {
					t.Errorf("Sorted of %.300q: %v", x.names, !x.want)
				}
			}
			if !slices.Equal(l, before) {
				t.Errorf("Sorted changed %v: %v", before, l)
			}
		}
	}
	if !note.Sorted() {
		t.Error("no row isn't sorted")
	}
}
