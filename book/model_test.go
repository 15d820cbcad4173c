package book

import (
	"fmt"
	"maps"
	"slices"
	"strconv"
	"strings"
	"testing"

	"calepin/api"
	"calepin/trial"
)

// A model of a shelf: an oracle of another make than the package's. It forgets nothing, and works out each answer from all that was.
type model struct {
	change int
	books  map[string]*history
}

// history is all changes to a collection, and the changes up to which it was trimmed.
type history struct {
	made    int
	events  []event
	horizon int
}

// event is a card put, or deleted (an empty text).
type event struct {
	at         int
	name, text string
}

// at is the cards as they were at that change.
func (h *history) at(change int) map[string]event {
	cards := map[string]event{}
	for _, x := range h.events {
		if x.at <= change {
			cards[x.name] = x
		}
	}
	maps.DeleteFunc(cards, func(_ string, x event) bool { return x.text == "" })
	return cards
}

// journal is the events above the horizon.
func (h *history) journal() []event {
	return h.events[slices.IndexFunc(append(h.events, event{at: 1 << 62}), func(x event) bool { return x.at > h.horizon }):]
}

// happen is one more event, behind which at most 64 are known.
func (h *history) happen(x event) {
	h.events = append(h.events, x)
	if j := h.journal(); len(j) > 64 {
		h.horizon = j[len(j)-65].at
	}
}

// condition is what a command says of tags: its texts, and whether they hold of a tag (none where they are no conditions).
type condition struct {
	match, none string
	holds       func(tag int) bool
}

// conditions are some of all sorts, near the tags now.
func conditions(now int) []condition {
	tag := func(n int) string { return `"` + strconv.Itoa(n) + `"` }
	n := max(now, 2)
	return []condition{
		{"", "", func(int) bool { return true }}, {"", "", func(int) bool { return true }}, {"", "", func(int) bool { return true }},
		{"*", "", func(t int) bool { return t != 0 }}, {"", "*", func(t int) bool { return t == 0 }}, {"*", "*", func(int) bool { return false }},
		{tag(n), "", func(t int) bool { return t == n }}, {"", tag(n), func(t int) bool { return t != n }},
		{tag(n-1) + "," + tag(n), tag(n), func(t int) bool { return t == n-1 }},
		{"x", "", nil}, {"", tag(n) + ",", nil}, {tag(0), "*", nil},
	}
}

// datas are what is put, and the texts that come of it: a number is the status of what can't be put.
var datas = [][2]string{
	{jo, joPrinted}, {jo, joPrinted}, {joPrinted, joPrinted},
	{"BEGIN:VCARD\nVERSION:4.0\nFN:A,B\nEND:VCARD\n", "BEGIN:VCARD\r\nVERSION:4.0\r\nFN:A\\,B\r\nEND:VCARD\r\n"},
	{"BEGIN:VCARD\nVERSION:4.0\nEND:VCARD\n", "403"}, {"", "403"}, {strings.Repeat("x", api.MaxText+1), "413"},
}

// step is a command, with what the model needs to know of it.
type step struct {
	api.Command
	text  string
	holds func(tag int) bool
	since int  // the token's change
	book  int  // and its collection
	read  bool // it is one
	named bool // its names are some
}

// draw is a step drawn among what lies near what the model has.
func (m *model) draw(d *trial.Draws) step {
	var x step
	x.Op = []api.Op{1, 1, 2, 3, 3, 3, 3, 3, 3, 3, 4, 4, 5, 6, 7, 7, 8, 9, 10, 0}[d.Below(20)]
	if x.Op == api.OpDrop && d.Below(3) > 0 {
		x.Op = api.OpPut
	}
	x.Book = d.Of("a", "a", "a", "b", "b", "c", "", "..")
	x.Name = d.Of("x", "x", "y", "z", "é", "", ".")
	x.named = true
	if x.Op == api.OpMake {
		x.named = x.Book != "" && x.Book != ".."
	}
	if x.Op == api.OpPut {
		x.named = x.Name != "" && x.Name != "."
	}
	data := datas[d.Below(len(datas))]
	x.Data, x.text = data[0], data[1]
	cs := conditions(m.change - d.Below(4))
	c := cs[d.Below(len(cs))]
	x.Match, x.None, x.holds = c.match, c.none, c.holds
	x.At = m.change - d.Below(40) + 2
	for range d.Below(4) {
		x.Names = append(x.Names, d.Of("x", "y", "z", "é", ""))
	}
	m.drawToken(&x, d)
	return x
}

// drawToken is a token for a step: mostly one that its collection may have told.
func (m *model) drawToken(x *step, d *trial.Draws) {
	x.book, x.since = 1+d.Below(m.change+1), m.change-d.Below(30)+1
	if h := m.books[x.Book]; h != nil && d.Below(8) > 0 {
		x.book = h.made
	}
	x.read = x.book <= x.since
	x.Token = fmt.Sprintf("urn:calepin:%d.%d", x.book, x.since)
	if d.Below(10) == 0 {
		x.Token, x.read = d.Of("", "x", x.Token+"."), false
	}
}

// do is what the model answers to a step.
func (m *model) do(x step) api.Reply {
	h := m.books[x.Book]
	if x.Op == api.OpMake {
		return m.create(x, h != nil)
	}
	if x.Op == api.OpList && x.Book == "" {
		return m.list()
	}
	if x.Op < 1 || x.Op > 9 {
		return api.Reply{Status: 400}
	}
	if h == nil {
		return api.Reply{Status: map[bool]int{true: 409, false: 404}[x.Op == api.OpPut]}
	}
	switch x.Op {
	case api.OpDrop:
		m.change++
		delete(m.books, x.Book)
		return api.Reply{Status: 204}
	case api.OpTrim:
		for at := h.horizon; at <= m.change && at <= x.At; at++ {
			h.horizon = at
		}
		return api.Reply{Status: 204}
	case api.OpPut:
		return m.put(x, h)
	case api.OpDelete:
		return m.remove(x, h)
	}
	return m.ask(x, h)
}

// create is a collection made.
func (m *model) create(x step, there bool) api.Reply {
	switch {
	case !x.named:
		return api.Reply{Status: 403}
	case there:
		return api.Reply{Status: 405}
	}
	m.change++
	m.books[x.Book] = &history{made: m.change, horizon: m.change}
	return api.Reply{Status: 201, Tag: m.change}
}

// list is the collections.
func (m *model) list() api.Reply {
	r := api.Reply{Status: 207}
	for _, name := range slices.Sorted(maps.Keys(m.books)) {
		r.Entries = append(r.Entries, api.Entry{Name: name, Tag: m.books[name].made})
	}
	return r
}

// put is a card put.
func (m *model) put(x step, h *history) api.Reply {
	old, was := h.at(m.change)[x.Name]
	refused, e := strconv.Atoi(x.text)
	switch {
	case !x.named:
		return api.Reply{Status: 403}
	case x.holds == nil:
		return api.Reply{Status: 400}
	case e == nil:
		return api.Reply{Status: refused}
	case !x.holds(old.at):
		return api.Reply{Status: 412}
	}
	m.change++
	h.happen(event{m.change, x.Name, x.text})
	if was {
		return api.Reply{Status: 204, Tag: m.change}
	}
	return api.Reply{Status: 201, Tag: m.change}
}

// remove is a card deleted.
func (m *model) remove(x step, h *history) api.Reply {
	old, was := h.at(m.change)[x.Name]
	switch {
	case !was:
		return api.Reply{Status: 404}
	case x.holds == nil:
		return api.Reply{Status: 400}
	case !x.holds(old.at):
		return api.Reply{Status: 412}
	}
	m.change++
	h.happen(event{m.change, x.Name, ""})
	return api.Reply{Status: 204}
}

// ask is what a collection tells.
func (m *model) ask(x step, h *history) api.Reply {
	now := h.at(m.change)
	r := api.Reply{Status: 207}
	if x.Op == api.OpGet {
		if k, there := now[x.Name]; there {
			return api.Reply{Status: 200, Tag: k.at, Data: k.text}
		}
		return api.Reply{Status: 404}
	}
	if x.Op == api.OpMulti {
		for _, name := range x.Names {
			r.Entries = append(r.Entries, api.Entry{Name: name, Tag: now[name].at, Data: now[name].text, Gone: now[name].at == 0})
		}
		return r
	}
	var was map[string]event
	if x.Op == api.OpSync && x.Token != "" {
		if !x.read || x.book != h.made || x.since < h.horizon || x.since > m.change {
			return api.Reply{Status: 403}
		}
		was = h.at(x.since)
	}
	r.Token = fmt.Sprintf("urn:calepin:%d.%d", h.made, m.change)
	r.Entries = differing(was, now)
	return r
}

// differing is the cards that aren't the same at two moments.
func differing(was, now map[string]event) []api.Entry {
	var told []api.Entry
	for _, name := range []string{"x", "y", "z", "é"} {
		if was[name].at != now[name].at {
			told = append(told, api.Entry{Name: name, Tag: now[name].at, Gone: now[name].at == 0})
		}
	}
	return told
}

// form is the model's bytes.
func (m *model) form() []byte {
	number := func(b []byte, n int) []byte { return trial.PutNumber(b, uint64(n)) }
	text := trial.PutText
	b := number(number(nil, m.change), len(m.books))
	for _, name := range slices.Sorted(maps.Keys(m.books)) {
		h := m.books[name]
		cards, journal := h.at(m.change), h.journal()
		b = number(number(number(text(b, name), h.made), h.horizon), len(cards))
		for _, card := range slices.Sorted(maps.Keys(cards)) {
			b = text(number(text(b, card), cards[card].at), cards[card].text)
		}
		b = number(b, len(journal))
		for _, x := range journal {
			_, was := h.at(x.at - 1)[x.name]
			b = append(text(number(b, x.at), x.name), map[bool]byte{true: 1}[was])
		}
	}
	return b
}

// P12.1, P12.2: long rows of drawn commands, each answered as the model does, and the bytes are the model's; a shelf loaded from them, or copied, goes on in the same way.
func TestAsModel(t *testing.T) {
	statuses := map[string]int{}
	for seed := range 60 {
		d := trial.Draws(seed)
		m, s := &model{books: map[string]*history{}}, New()
		for range 400 {
			x := m.draw(&d)
			want := m.do(x)
			statuses[fmt.Sprint(x.Op, want.Status)]++
			is(t, s, x.Command, want)
			if s.Change() != m.change {
				t.Fatalf("change %d, want %d", s.Change(), m.change)
			}
			switch d.Below(20) {
			case 0:
				if got, want := string(s.Form()), string(m.form()); got != want {
					t.Fatalf("the bytes are\n%q, want\n%q", got, want)
				}
			case 1:
				s = loaded(t, s.Form())
			case 2:
				s = s.Copy()
			}
			if t.Failed() {
				t.Fatalf("seed %d", seed)
			}
		}
	}
	if len(statuses) < 29 {
		t.Errorf("only %d sorts of answers: %v", len(statuses), statuses)
	}
	for sort, n := range statuses {
		if n < 20 {
			t.Errorf("%s only %d times", sort, n)
		}
	}
}

// loaded asks that bytes are a shelf's, and that they are its own.
func loaded(t *testing.T, b []byte) *Shelf {
	t.Helper()
	s, e := Load(b)
	if e != api.OK || string(s.Form()) != string(b) {
		t.Fatalf("Load of a shelf's bytes: %d", e)
	}
	return s
}

// known is what a client knows of the collection: a token, and the cards' tags as they were told with it.
type known struct {
	token string
	at    int
	made  int
	tags  map[string]int
}

// knows is what a client learns when it asks for all.
func knows(s *Shelf, made int) known {
	r := s.Do(api.Command{Op: api.OpList, Book: "a"})
	k := known{token: r.Token, at: s.Change(), made: made, tags: map[string]int{}}
	for _, x := range r.Entries {
		k.tags[x.Name] = x.Tag
	}
	return k
}

// life is a shelf with the collections a and b, what clients know of a, and a's changes and horizon as the chapter says them.
type life struct {
	*Shelf
	trial.Draws
	made, horizon int
	changes       []int
	clients       []known
}

// command is one drawn, mostly of a.
func (l *life) command() api.Command {
	c := api.Command{Op: api.OpPut, Book: "a", Name: strconv.Itoa(l.Below(30)), Data: jo}
	switch n := l.Below(200); {
	case n == 0:
		c.Op = api.OpDrop
	case n < 5:
		c.Op, c.At = api.OpTrim, l.Change()-l.Below(30)
	case n < 70:
		c.Op = api.OpDelete
	case n < 110:
		c.Book = "b"
	}
	return c
}

// goOn does a command, ahead of which both collections are there, and tells whether a is there behind it.
func (l *life) goOn() bool {
	l.Do(makes("b"))
	if r := l.Do(makes("a")); r.Status == 201 {
		l.made, l.horizon, l.changes = r.Tag, r.Tag, nil
	}
	c, before := l.command(), l.Change()
	l.Do(c)
	if c.Op == api.OpTrim {
		l.horizon = max(l.horizon, c.At)
	}
	if c.Book == "a" && l.Change() != before {
		l.changes = append(l.changes, l.Change())
	}
	if len(l.changes) > 64 {
		l.horizon = max(l.horizon, l.changes[len(l.changes)-65])
	}
	return c.Op != api.OpDrop
}

// P12.3: whatever came between, a token that was told is refused only below the horizon or of a dropped collection; else just the cards that differ are told.
func TestTokens(t *testing.T) {
	statuses := map[int]int{}
	for seed := range 20 {
		l := &life{Shelf: New(), Draws: trial.Draws(seed)}
		for range 500 {
			if !l.goOn() {
				continue
			}
			now := knows(l.Shelf, l.made)
			l.clients = append(l.clients, now)
			for range 5 {
				was := l.clients[l.Below(len(l.clients))]
				r := l.Do(syncs("a", was.token))
				statuses[r.Status]++
				late := was.made != l.made || was.at < l.horizon
				if late && r.Status == 403 {
					continue
				}
				if late || r.Status != 207 {
					t.Fatalf("%s at horizon %d: %d", was.token, l.horizon, r.Status)
				}
				tells(t, was, now, r)
			}
		}
	}
	if statuses[403] < 1000 || statuses[207] < 1000 {
		t.Errorf("too few of a sort: %v", statuses)
	}
}

// tells asks that a reply tells just what differs between what was known and what is now.
func tells(t *testing.T, was, now known, r api.Reply) {
	t.Helper()
	var want []api.Entry
	for i := range 30 {
		name := strconv.Itoa(i)
		if was.tags[name] != now.tags[name] {
			want = append(want, api.Entry{Name: name, Tag: now.tags[name], Gone: now.tags[name] == 0})
		}
	}
	slices.SortFunc(want, func(x, y api.Entry) int { return strings.Compare(x.Name, y.Name) })
	if !slices.Equal(r.Entries, want) || r.Token != now.token {
		t.Fatalf("since %s: %v %s, want %v %s", was.token, r.Entries, r.Token, want, now.token)
	}
}
