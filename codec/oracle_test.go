package codec

import (
	"math"
	"reflect"
	"slices"
	"strconv"
	"testing"

	"calepin/api"
	"calepin/trial"
)

// What the chapter says of the bytes, in another make than the package's: the tests hold it against that.

// commandBytes are a command's.
func commandBytes(c api.Command) []byte {
	b := trial.PutNumber(nil, uint64(c.Op))
	for _, s := range []string{c.Book, c.Name, c.Data, c.Match, c.None, c.Token} {
		b = trial.PutText(b, s)
	}
	b = trial.PutNumber(b, uint64(len(c.Names)))
	for _, s := range c.Names {
		b = trial.PutText(b, s)
	}
	for _, n := range []int{c.At, c.Session, c.Seq} {
		b = trial.PutNumber(b, uint64(n))
	}
	return b
}

// replyBytes are a reply's.
func replyBytes(r api.Reply) []byte {
	b := trial.PutNumber(trial.PutNumber(nil, uint64(r.Status)), uint64(r.Tag))
	b = trial.PutNumber(trial.PutText(b, r.Data), uint64(len(r.Entries)))
	for _, x := range r.Entries {
		b = trial.PutText(trial.PutNumber(trial.PutText(b, x.Name), uint64(x.Tag)), x.Data)
		b = append(b, map[bool]byte{true: 1, false: 0}[x.Gone])
	}
	return trial.PutText(b, r.Token)
}

// logBytes are those of an entry of a right kind.
func logBytes(l api.Log) []byte {
	b := append(trial.PutNumber(nil, uint64(l.Term)), byte(l.Kind))
	switch l.Kind {
	case 1:
		b = append(b, commandBytes(l.Command)...)
	case 2:
		b = trial.PutNumber(b, uint64(len(l.Nodes)))
		for _, n := range l.Nodes {
			b = trial.PutNumber(b, uint64(n))
		}
	}
	return b
}

// scanned reads all of b, and tells the value, or the error of the bytes, or ErrForm if read said that they aren't right.
func scanned[T any](b []byte, read func(s *trial.Scan, right *bool) T) (T, api.Errno) {
	var x, none T
	right := true
	e := trial.Scanned(b, func(s *trial.Scan) { x = read(s, &right) })
	if e == api.OK && !right {
		e = api.ErrForm
	}
	if e != api.OK {
		return none, e
	}
	return x, e
}

// whole64 is any number.
func whole64(s *trial.Scan) int {
	return int(s.Number())
}

// scanCommand reads a command.
func scanCommand(s *trial.Scan, _ *bool) api.Command {
	var c api.Command
	c.Op = api.Op(whole64(s))
	for _, field := range []*string{&c.Book, &c.Name, &c.Data, &c.Match, &c.None, &c.Token} {
		*field = s.Text()
	}
	s.Each(func() { c.Names = append(c.Names, s.Text()) })
	for _, field := range []*int{&c.At, &c.Session, &c.Seq} {
		*field = whole64(s)
	}
	return c
}

// scanReply reads a reply.
func scanReply(s *trial.Scan, right *bool) api.Reply {
	r := api.Reply{Status: whole64(s), Tag: whole64(s), Data: s.Text()}
	s.Each(func() {
		x := api.Entry{Name: s.Text(), Tag: whole64(s), Data: s.Text()}
		gone := s.Bytes(1)[0]
		*right = *right && gone < 2
		x.Gone = gone == 1
		r.Entries = append(r.Entries, x)
	})
	r.Token = s.Text()
	return r
}

// scanLog reads an entry.
func scanLog(s *trial.Scan, right *bool) api.Log {
	l := api.Log{Term: whole64(s), Kind: api.LogKind(s.Bytes(1)[0])}
	switch l.Kind {
	case 0:
	case 1:
		l.Command = scanCommand(s, right)
	case 2:
		s.Each(func() { l.Nodes = append(l.Nodes, whole64(s)) })
	default:
		*right = false
	}
	return l
}

// One of the three calls that read, held against what the chapter says of it.
type getter[T any] struct {
	get  func([]byte) (T, api.Errno)
	scan func(*trial.Scan, *bool) T
	put  func(T) []byte
}

var (
	commands = getter[api.Command]{GetCommand, scanCommand, PutCommand}
	replies  = getter[api.Reply]{GetReply, scanReply, PutReply}
	logs     = getter[api.Log]{GetLog, scanLog, func(l api.Log) []byte { b, _ := PutLog(l); return b }}
)

// gets asks that these bytes are read as the chapter says, and tells the error. What is got has just these bytes: no value has two forms.
func (g getter[T]) gets(t *testing.T, what string, b []byte) api.Errno {
	t.Helper()
	was := string(b)
	want, wantErr := scanned(b, g.scan)
	got, e := g.get(b)
	if e != wantErr || !reflect.DeepEqual(got, want) {
		t.Fatalf("%s: %.99v, %d, want %.99v, %d", what, got, e, want, wantErr)
	}
	if string(b) != was {
		t.Fatalf("%s: the bytes were changed", what)
	}
	if e == api.OK && string(g.put(got)) != was {
		t.Fatalf("%s: other bytes: %.999q, want %.999q", what, g.put(got), was)
	}
	return e
}

// ends asks for just this error, and for what the chapter says.
func (g getter[T]) ends(t *testing.T, what string, b []byte, want api.Errno) {
	t.Helper()
	if e := g.gets(t, what, b); e != want {
		t.Fatalf("%s: %d, want %d", what, e, want)
	}
}

// around reads each beginning of right bytes, and longer ones.
func (g getter[T]) around(t *testing.T, b []byte) {
	t.Helper()
	g.ends(t, "right", b, api.OK)
	for n := range b {
		g.ends(t, "the first "+strconv.Itoa(n), b[:n:n], api.ErrShort)
		// What stands behind the slice isn't handed in.
		g.ends(t, "the first of more "+strconv.Itoa(n), b[:n], api.ErrShort)
	}
	for n := 1; n < 20; n++ {
		g.ends(t, strconv.Itoa(n)+" more", append(slices.Clone(b), make([]byte, n)...), api.ErrTrail)
	}
}

// beside reads all bytes that have one byte more, another one, or one less than right ones, and tells how many had which error.
func (g getter[T]) beside(t *testing.T, b []byte) map[api.Errno]int {
	t.Helper()
	counts := map[api.Errno]int{}
	trial.Beside(string(b), func(s string) { counts[g.gets(t, strconv.Quote(s), []byte(s))]++ })
	return counts
}

// drawn draws values; texts are short ones of bytes that numbers are made of, too, numbers small and extreme.
type drawn struct{ trial.Draws }

func (d *drawn) number() int {
	return []int{0, 1, 2, 3, 7, 255, 256, -1, 1 << 62, math.MaxInt, math.MinInt, d.Below(1 << 30), -d.Below(1 << 30)}[d.Below(13)]
}

func (d *drawn) text() string {
	return d.Of("", "", "a", "b", "\x00", "\x01", "\xff", "é", "\r\n", "\x00\x00\x00\x00\x00\x00\x00\x01", "BEGIN:VCARD")
}

func (d *drawn) texts() []string {
	var all []string
	for range d.Below(4) {
		all = append(all, d.text())
	}
	return all
}

func (d *drawn) command() api.Command {
	return api.Command{
		Op:   api.Op(d.number()),
		Book: d.text(), Name: d.text(), Data: d.text(), Match: d.text(), None: d.text(), Token: d.text(),
		Names: d.texts(),
		At:    d.number(), Session: d.number(), Seq: d.number(),
	}
}

func (d *drawn) reply() api.Reply {
	r := api.Reply{Status: d.number(), Tag: d.number(), Data: d.text(), Token: d.text()}
	for range d.Below(4) {
		r.Entries = append(r.Entries, api.Entry{Name: d.text(), Tag: d.number(), Data: d.text(), Gone: d.Below(2) == 1})
	}
	return r
}

func (d *drawn) log() api.Log {
	l := api.Log{Term: d.number(), Kind: api.LogKind(d.Below(3))}
	switch l.Kind {
	case api.LogCommand:
		l.Command = d.command()
	case api.LogNodes:
		for range d.Below(8) {
			l.Nodes = append(l.Nodes, d.number())
		}
	}
	return l
}
