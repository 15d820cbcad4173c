package codec

import (
	"encoding/binary"
	"math"
	"reflect"
	"slices"
	"strconv"
	"strings"
	"testing"

	"calepin/api"
)

// n is eight bytes: a small number.
func n(low byte) string {
	return strings.Repeat("\x00", 7) + string([]byte{low})
}

// full is a command all of whose fields count.
func full() api.Command {
	return api.Command{Op: api.OpMulti, Book: "b", Name: "n", Data: "dd", Match: "m", None: "o", Token: "t", Names: []string{"x", "", "yz"}, At: 258, Session: 3, Seq: -1}
}

// told is a reply all of whose fields count.
func told() api.Reply {
	return api.Reply{Status: 207, Tag: 1 << 62, Data: "d", Entries: []api.Entry{{Name: "x", Tag: 2, Data: "e"}, {Name: "y", Gone: true}}, Token: "t"}
}

// The chapter's example.
func TestExample(t *testing.T) {
	b, e := PutLog(api.Log{Term: 2, Kind: api.LogNodes, Nodes: []int{1, 3}})
	if want := n(2) + "\x02" + n(2) + n(1) + n(3); string(b) != want || e != api.OK {
		t.Errorf("%q, %d, want %q", b, e, want)
	}
}

// P15.1: the bytes, each as it stands.
func TestBytes(t *testing.T) {
	minus := strings.Repeat("\xff", 8)
	command := n(8) + n(1) + "b" + n(1) + "n" + n(2) + "dd" + n(1) + "m" + n(1) + "o" + n(1) + "t" +
		n(3) + n(1) + "x" + n(0) + n(2) + "yz" + "\x00\x00\x00\x00\x00\x00\x01\x02" + n(3) + minus
	reply := n(207) + "\x40\x00\x00\x00\x00\x00\x00\x00" + n(1) + "d" + n(2) +
		n(1) + "x" + n(2) + n(1) + "e" + "\x00" + n(1) + "y" + n(0) + n(0) + "\x01" + n(1) + "t"
	for _, x := range []struct{ what, got, want string }{
		{"command", string(PutCommand(full())), command},
		{"no command", string(PutCommand(api.Command{})), strings.Repeat("\x00", 88)},
		{"a command of no names", string(PutCommand(api.Command{Names: []string{}})), strings.Repeat("\x00", 88)},
		{"negative op", string(PutCommand(api.Command{Op: -1})), minus + strings.Repeat("\x00", 80)},
		{"reply", string(PutReply(told())), reply},
		{"no reply", string(PutReply(api.Reply{})), strings.Repeat("\x00", 40)},
		{"a reply of no entries", string(PutReply(api.Reply{Entries: []api.Entry{}})), strings.Repeat("\x00", 40)},
	} {
		if x.got != x.want {
			t.Errorf("%s:\n%q, want\n%q", x.what, x.got, x.want)
		}
	}
	for what, x := range map[string]struct {
		l    api.Log
		want string
	}{
		"nothing":     {api.Log{}, n(0) + "\x00"},
		"a first one": {api.Log{Term: 5}, n(5) + "\x00"},
		"a command":   {api.Log{Term: math.MinInt, Kind: api.LogCommand, Command: full()}, "\x80" + n(0)[1:] + "\x01" + command},
		"no command":  {api.Log{Kind: api.LogCommand, Nodes: []int{}}, n(0) + "\x01" + strings.Repeat("\x00", 88)},
		"no nodes":    {api.Log{Term: 1, Kind: api.LogNodes, Command: api.Command{Names: []string{}}}, n(1) + "\x02" + n(0)},
		"nodes":       {api.Log{Term: -1, Kind: api.LogNodes, Nodes: []int{-1, 0, -1}}, minus + "\x02" + n(3) + minus + n(0) + minus},
	} {
		if b, e := PutLog(x.l); string(b) != x.want || e != api.OK {
			t.Errorf("%s:\n%q, %d, want\n%q", what, b, e, x.want)
		}
	}
}

// fields are commands that have one field each, and no two the same.
func fields() []api.Command {
	return []api.Command{
		{Op: 1}, {Op: -1}, {Book: "x"}, {Name: "x"}, {Data: "x"}, {Match: "x"}, {None: "x"}, {Token: "x"}, {Names: []string{""}}, {Names: []string{"x"}},
		{At: 1}, {Session: 1}, {Seq: 1}, {At: math.MinInt}, {Book: "\x00"},
	}
}

// P15.1: ErrForm, if the kind is none, or there is something of another one.
func TestPutLogForm(t *testing.T) {
	refused := func(l api.Log) {
		t.Helper()
		if b, e := PutLog(l); len(b) != 0 || e != api.ErrForm {
			t.Errorf("%v: %q, %d", l, b, e)
		}
	}
	for _, kind := range []api.LogKind{-1, 3, 4, 255, 256, 257, 258, -254, -255, -256, 1 << 32, 1<<32 + 1, math.MaxInt, math.MinInt} {
		refused(api.Log{Kind: kind})
		refused(api.Log{Term: 1, Kind: kind, Command: full()})
		refused(api.Log{Term: 1, Kind: kind, Nodes: []int{1}})
	}
	for _, c := range fields() {
		refused(api.Log{Command: c})
		refused(api.Log{Kind: api.LogNodes, Command: c})
		refused(api.Log{Kind: api.LogNodes, Command: c, Nodes: []int{1}})
	}
	for _, nodes := range [][]int{{0}, {1}, {0, 0}} {
		refused(api.Log{Nodes: nodes})
		refused(api.Log{Kind: api.LogCommand, Nodes: nodes})
		refused(api.Log{Kind: api.LogCommand, Command: full(), Nodes: nodes})
	}
}

// sampleLogs are entries of each kind, with lists of none and of several.
func sampleLogs() []api.Log {
	return []api.Log{
		{}, {Term: 7}, {Term: 1, Kind: api.LogCommand}, {Term: -1, Kind: api.LogCommand, Command: full()},
		{Kind: api.LogNodes}, {Term: 2, Kind: api.LogNodes, Nodes: []int{1, 3}}, {Term: 2, Kind: api.LogNodes, Nodes: []int{-1, 1 << 62, 0}},
	}
}

// P15.2: each beginning is too short, and longer ones leave some.
func TestShortAndTrail(t *testing.T) {
	commands.around(t, commandBytes(full()))
	commands.around(t, commandBytes(api.Command{}))
	replies.around(t, replyBytes(told()))
	replies.around(t, replyBytes(api.Reply{}))
	for _, l := range sampleLogs() {
		logs.around(t, logBytes(l))
	}
	commands.ends(t, "nil", nil, api.ErrShort)
	replies.ends(t, "nil", nil, api.ErrShort)
	logs.ends(t, "nil", nil, api.ErrShort)
}

// P15.2: each field on its own is got as it was put, and where it was put.
func TestFields(t *testing.T) {
	for _, c := range append(fields(), full(), api.Command{}) {
		if got, e := GetCommand(PutCommand(c)); e != api.OK || !reflect.DeepEqual(got, c) {
			t.Errorf("%v, %d, want %v", got, e, c)
		}
		l := api.Log{Term: 1, Kind: api.LogCommand, Command: c}
		b, _ := PutLog(l)
		if got, e := GetLog(b); e != api.OK || !reflect.DeepEqual(got, l) {
			t.Errorf("%v, %d, want %v", got, e, l)
		}
	}
	for _, r := range []api.Reply{
		{}, told(), {Status: 1}, {Status: -1}, {Tag: 1}, {Data: "x"}, {Token: "x"}, {Entries: []api.Entry{{}}}, {Entries: []api.Entry{{}, {}}},
		{Entries: []api.Entry{{Name: "x"}}}, {Entries: []api.Entry{{Tag: -1}}}, {Entries: []api.Entry{{Data: "x"}}}, {Entries: []api.Entry{{Gone: true}}},
	} {
		if got, e := GetReply(PutReply(r)); e != api.OK || !reflect.DeepEqual(got, r) {
			t.Errorf("%v, %d, want %v", got, e, r)
		}
	}
	for _, l := range sampleLogs() {
		b, _ := PutLog(l)
		if got, e := GetLog(b); e != api.OK || !reflect.DeepEqual(got, l) {
			t.Errorf("%v, %d, want %v", got, e, l)
		}
	}
}

// P15.2: a byte that is neither 1 nor 0, and a kind that is none: behind it nothing stands.
func TestGetForm(t *testing.T) {
	for gone := range 256 {
		b := replyBytes(told())
		// The first entry's byte; the second one has 25 bytes, the token 9.
		at := len(b) - 9 - 26 - 1
		b[at] = byte(gone)
		want := api.ErrForm
		if gone <= 1 {
			want = api.OK
		}
		what := "byte " + strconv.Itoa(gone)
		replies.ends(t, what, b, want)
		replies.ends(t, what+" and one left", append(slices.Clone(b), 0), api.ErrTrail)
		replies.ends(t, what+" and one short", b[:len(b)-1], api.ErrShort)
	}
	for kind := range 256 {
		b := []byte(n(1) + string([]byte{byte(kind)}))
		what := "kind " + strconv.Itoa(kind)
		switch kind {
		case 0:
			logs.ends(t, what, b, api.OK)
		case 1, 2:
			logs.ends(t, what, b, api.ErrShort)
			logs.ends(t, what+" and some", append(b, make([]byte, 7)...), api.ErrShort)
			continue
		default:
			logs.ends(t, what, b, api.ErrForm)
		}
		logs.ends(t, what+" and one left", append(slices.Clone(b), 0), api.ErrTrail)
		logs.ends(t, what+" and a command", append(slices.Clone(b), commandBytes(full())...), api.ErrTrail)
		logs.ends(t, what+" cut off", b[:8], api.ErrShort)
	}
}

// counts puts great counts where one stands, and asks that the bytes are too short.
func counts[T any](t *testing.T, g getter[T], b []byte, places ...int) {
	t.Helper()
	for _, at := range places {
		behind := len(b) - at - 8
		for _, n := range []uint64{uint64(behind + 1), uint64(len(b)), 1 << 31, 1 << 32, 1 << 61, 1<<61 + 1, 1 << 62, 1 << 63, 1<<64 - 1} {
			c := slices.Clone(b)
			binary.BigEndian.PutUint64(c[at:], n)
			g.ends(t, "a count of "+strconv.FormatUint(n, 10)+" at "+strconv.Itoa(at), c, api.ErrShort)
		}
	}
}

// P15.2: a count above the number of bytes behind it, whatever stands there.
func TestCounts(t *testing.T) {
	counts(t, commands, commandBytes(api.Command{}), 8, 16, 24, 32, 40, 48, 56)
	counts(t, commands, commandBytes(full()), 8, 17, 26, 36, 45, 54, 63, 71, 80, 88)
	counts(t, replies, replyBytes(api.Reply{}), 16, 24, 32)
	counts(t, replies, replyBytes(told()), 16, 25, 33, 50, 60, 77, 86)
	counts(t, logs, logBytes(api.Log{Kind: api.LogCommand}), 17, 65)
	counts(t, logs, logBytes(api.Log{Kind: api.LogNodes, Nodes: []int{1, 3}}), 9)
	// As many as there are bytes, though the things themselves need more.
	commands.ends(t, "many names", []byte(strings.Repeat("\x00", 56)+n(40)+strings.Repeat("\x00", 40)), api.ErrShort)
	replies.ends(t, "many entries", []byte(strings.Repeat("\x00", 24)+n(50)+strings.Repeat("\x00", 50)), api.ErrShort)
	logs.ends(t, "many nodes", append([]byte(n(0)+"\x02"+n(16)), make([]byte, 16)...), api.ErrShort)
	long := binary.BigEndian.AppendUint64([]byte(n(0)+"\x02"), 1<<20)
	logs.ends(t, "a million nodes of few bytes", append(long, make([]byte, 1<<20)...), api.ErrShort)
	logs.ends(t, "as many nodes as bytes for them", append(long, make([]byte, 8<<20)...), api.OK)
}

// P15.2: bytes beside right ones, each byte at each place.
func TestBeside(t *testing.T) {
	enough := func(what string, counts map[api.Errno]int, errors ...api.Errno) {
		for _, e := range errors {
			if counts[e] < 10 {
				t.Errorf("%s: only %d times %d", what, counts[e], e)
			}
		}
	}
	enough("commands", commands.beside(t, commandBytes(full())), api.OK, api.ErrShort, api.ErrTrail)
	enough("replies", replies.beside(t, replyBytes(told())), api.OK, api.ErrShort, api.ErrTrail, api.ErrForm)
	for _, l := range sampleLogs() {
		enough("entries", logs.beside(t, logBytes(l)), api.OK, api.ErrShort, api.ErrTrail)
	}
}

// P15.1, P15.2: drawn values have the bytes that the chapter says, and are got again; spoilt bytes are read as it says.
func TestDrawn(t *testing.T) {
	d := drawn{15}
	for range 20000 {
		c, r, l := d.command(), d.reply(), d.log()
		b, e := PutLog(l)
		if string(PutCommand(c)) != string(commandBytes(c)) || string(PutReply(r)) != string(replyBytes(r)) || string(b) != string(logBytes(l)) || e != api.OK {
			t.Fatalf("other bytes of %v, %v or %v", c, r, l)
		}
		if got, e := GetCommand(PutCommand(c)); e != api.OK || !reflect.DeepEqual(got, c) {
			t.Errorf("%v, %d, want %v", got, e, c)
		}
		if got, e := GetReply(PutReply(r)); e != api.OK || !reflect.DeepEqual(got, r) {
			t.Errorf("%v, %d, want %v", got, e, r)
		}
		if got, e := GetLog(b); e != api.OK || !reflect.DeepEqual(got, l) {
			t.Errorf("%v, %d, want %v", got, e, l)
		}
		commands.gets(t, "spoilt", d.Spoilt(PutCommand(c)))
		replies.gets(t, "spoilt", d.Spoilt(PutReply(r)))
		logs.gets(t, "spoilt", d.Spoilt(b))
		logs.gets(t, "a command's", PutCommand(c))
		commands.gets(t, "a reply's", PutReply(r))
		replies.gets(t, "an entry's", b)
	}
}

// No bytes are those of two values: drawn values that differ have other bytes.
func TestOneForm(t *testing.T) {
	d := drawn{151}
	seen := map[string]api.Log{}
	for range 5000 {
		l := d.log()
		b, _ := PutLog(l)
		if was, ok := seen[string(b)]; ok && !reflect.DeepEqual(was, l) {
			t.Errorf("%v and %v have the same bytes", was, l)
		}
		seen[string(b)] = l
	}
}

// Long texts and lists go there and back.
func TestLong(t *testing.T) {
	c := api.Command{Op: api.OpPut, Data: strings.Repeat("é", 1<<19), Names: make([]string, 5000)}
	for i := range c.Names {
		c.Names[i] = strconv.Itoa(i)
	}
	commands.ends(t, "a long command", PutCommand(c), api.OK)
	replies.ends(t, "a long reply", PutReply(api.Reply{Data: c.Data, Entries: make([]api.Entry, 5000)}), api.OK)
	logs.ends(t, "a long entry", logBytes(api.Log{Kind: api.LogCommand, Command: c}), api.OK)
}

// scribbled writes over a list, and over the room behind it.
func scribbled[T any](all []T, x T) {
	all = all[:cap(all)]
	for i := range all {
		all[i] = x
	}
}

// What is handed in stays as it is, with the room behind it, and answers are new memory.
func TestMemory(t *testing.T) {
	names, nodes, entries := []string{"x", "y", "z"}, []int{1, 2, 3}, []api.Entry{{Name: "x"}, {Name: "y"}}
	c, r := full(), told()
	c.Names, r.Entries = names[:1], entries[:1]
	put := func() (a, b, d, f []byte) {
		d, _ = PutLog(api.Log{Kind: api.LogNodes, Nodes: nodes[:2]})
		f, _ = PutLog(api.Log{Kind: api.LogCommand, Command: c})
		return PutCommand(c), PutReply(r), d, f
	}
	for range 2 {
		a, b, d, f := put()
		got, _ := GetCommand(a)
		again, _ := GetCommand(a)
		gotReply, _ := GetReply(b)
		gotNodes, _ := GetLog(d)
		gotLog, _ := GetLog(f)
		for _, x := range [][]byte{a, b, d, f} {
			scribbled(x, 'w')
		}
		scribbled(again.Names, "w")
		if !reflect.DeepEqual(got, c) || !reflect.DeepEqual(gotReply, r) || !slices.Equal(gotNodes.Nodes, []int{1, 2}) || !reflect.DeepEqual(gotLog.Command, c) {
			t.Errorf("what was got has changed: %v, %v, %v, %v", got, gotReply, gotNodes, gotLog)
		}
		scribbled(gotReply.Entries, api.Entry{Name: "w"})
		scribbled(gotNodes.Nodes, 9)
		scribbled(gotLog.Command.Names, "w")
	}
	if !slices.Equal(names, []string{"x", "y", "z"}) || !slices.Equal(nodes, []int{1, 2, 3}) || entries[0].Name != "x" || entries[1].Name != "y" {
		t.Errorf("what was handed in has changed: %q, %d, %v", names, nodes, entries)
	}
}
