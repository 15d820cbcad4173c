package disk

import (
	"fmt"
	"maps"
	"math"
	"slices"
	"strings"
	"testing"

	"calepin/api"
)

// call is one that may change a disk.
type call struct {
	do         string
	name, with string // with: what a Write lays, or the name that a Rename gives
	n          int
}

func writes(name, b string) call            { return call{do: "write", name: name, with: b} }
func cuts(name string, n int) call          { return call{do: "cut", name: name, n: n} }
func syncs(name string) call                { return call{do: "sync", name: name} }
func renames(from, to string) call          { return call{do: "rename", name: from, with: to} }
func removes(name string) call              { return call{do: "remove", name: name} }
func flushes() call                         { return call{do: "flush"} }
func crashes(keep int) call                 { return call{do: "crash", n: keep} }
func fails(n int) call                      { return call{do: "fail", n: n} }
func behind(cs []call, more ...call) []call { return append(slices.Clone(cs), more...) }

// on does the call to a disk. A Crash or Fail, which answers nothing, counts as api.OK.
func (c call) on(d *Disk) api.Errno {
	switch c.do {
	case "write":
		return d.Write(c.name, []byte(c.with))
	case "cut":
		return d.Cut(c.name, c.n)
	case "sync":
		return d.Sync(c.name)
	case "rename":
		return d.Rename(c.name, c.with)
	case "remove":
		return d.Remove(c.name)
	case "flush":
		return d.Flush()
	case "crash":
		d.Crash(c.n)
	case "fail":
		d.Fail(c.n)
	}
	return api.OK
}

// empty is a disk without files.
func empty(t *testing.T, room int) *Disk {
	t.Helper()
	d, e := New(room)
	if d == nil || e != api.OK {
		t.Fatalf("New(%d): %v", room, e)
	}
	return d
}

// made is a disk to which these calls were done, none of which may have an error.
func made(t *testing.T, room int, cs ...call) *Disk {
	t.Helper()
	d := empty(t, room)
	for _, c := range cs {
		does(t, d, c, api.OK)
	}
	return d
}

// does asks that a call answers just this.
func does(t *testing.T, d *Disk, c call, want api.Errno) {
	t.Helper()
	if got := c.on(d); got != want {
		t.Fatalf("%+v: %d, want %d", c, got, want)
	}
}

// files are names, and the bytes of each.
type files map[string]string

// has asks that a disk's directory has just these files, and that so much room is left.
func has(t *testing.T, d *Disk, want files, free int) {
	t.Helper()
	names := slices.Sorted(maps.Keys(want))
	if got := d.Names(); !slices.Equal(got, names) {
		t.Fatalf("Names: %q, want %q", got, names)
	}
	for _, name := range names {
		if b, e := d.Read(name); string(b) != want[name] || e != api.OK {
			t.Fatalf("Read(%q): %q, %d, want %q", name, b, e, want[name])
		}
	}
	if got := d.Free(); got != free {
		t.Fatalf("Free: %d, want %d", got, free)
	}
}

// refuses asks that a call answers this error, and that nothing is changed by it: neither what is told now nor what a crash leaves.
func refuses(t *testing.T, room int, cs []call, c call, want api.Errno) {
	t.Helper()
	for _, last := range [][]call{nil, {crashes(0)}, {crashes(1)}, {flushes(), crashes(0)}} {
		d, twin := made(t, room, cs...), made(t, room, behind(cs, last...)...)
		does(t, d, c, want)
		for _, l := range last {
			does(t, d, l, api.OK)
		}
		alike(t, d, twin)
	}
}

// alike asks that two disks tell the same.
func alike(t *testing.T, d, twin *Disk) {
	t.Helper()
	want := files{}
	for _, name := range twin.Names() {
		b, _ := twin.Read(name)
		want[name] = string(b)
	}
	has(t, d, want, twin.Free())
}

// The chapter's examples, one behind the other.
func TestExamples(t *testing.T) {
	d := made(t, 100, writes("f", "ab"), syncs("f"), flushes(), writes("f", "cd"), crashes(1))
	has(t, d, files{"f": "abc"}, 97)
	does(t, d, writes("g", "x"), api.OK)
	does(t, d, syncs("g"), api.OK)
	does(t, d, crashes(0), api.OK)
	has(t, d, files{"f": "abc"}, 97)
	does(t, d, renames("f", "h"), api.OK)
	has(t, d, files{"h": "abc"}, 97)
	does(t, d, crashes(0), api.OK)
	has(t, d, files{"f": "abc"}, 97)
}

// P17.1: rooms on both sides of 0.
func TestNew(t *testing.T) {
	for _, room := range []int{math.MinInt, math.MinInt + 1, -1 << 32, -2, -1, 0, 1, 2, 1 << 32, math.MaxInt} {
		d, e := New(room)
		if room < 0 {
			if d != nil || e != api.ErrArg {
				t.Errorf("New(%d): %v, %d", room, d, e)
			}
			continue
		}
		if d == nil || e != api.OK {
			t.Fatalf("New(%d): %v, %d", room, d, e)
		}
		has(t, d, files{}, room)
	}
}

// P17.1: a Write lays bytes behind a file's, or makes the file, also of no bytes.
func TestWrite(t *testing.T) {
	d := empty(t, 20)
	for _, x := range []struct {
		c    call
		want files
		free int
	}{
		{writes("a", "12"), files{"a": "12"}, 18},
		{writes("a", "3"), files{"a": "123"}, 17},
		{writes("b", ""), files{"a": "123", "b": ""}, 17},
		{writes("a", ""), files{"a": "123", "b": ""}, 17},
		{writes("b", "\x00\xff\n"), files{"a": "123", "b": "\x00\xff\n"}, 14},
		{writes("a", "456"), files{"a": "123456", "b": "\x00\xff\n"}, 11},
		{writes("a/b\x00\xff", "x"), files{"a": "123456", "b": "\x00\xff\n", "a/b\x00\xff": "x"}, 10},
		{writes(strings.Repeat("n", 1000), "y"), files{"a": "123456", "b": "\x00\xff\n", "a/b\x00\xff": "x", strings.Repeat("n", 1000): "y"}, 9},
	} {
		does(t, d, x.c, api.OK)
		has(t, d, x.want, x.free)
	}
}

// P17.1: which Writes have an error, and the room on both sides of its bound.
func TestWriteErrors(t *testing.T) {
	for _, cs := range [][]call{nil, {writes("a", "12")}, {writes("a", "12"), syncs("a"), flushes()}, {writes("a", "12"), syncs("a"), flushes(), writes("b", "3")}} {
		free := made(t, 5, cs...).Free()
		for n := range 9 {
			b := strings.Repeat("x", n)
			refuses(t, 5, cs, writes("", b), api.ErrArg)
			for _, name := range []string{"a", "b", "c"} {
				if n > free {
					refuses(t, 5, cs, writes(name, b), api.ErrFull)
					continue
				}
				d := made(t, 5, cs...)
				was, _ := d.Read(name)
				does(t, d, writes(name, b), api.OK)
				if got, e := d.Read(name); string(got) != string(was)+b || e != api.OK || d.Free() != free-n {
					t.Fatalf("%d bytes behind %v: %q, %d, free %d", n, cs, got, e, d.Free())
				}
			}
		}
	}
	d := made(t, 0, writes("a", ""), writes("a", ""), flushes(), crashes(0))
	has(t, d, files{"a": ""}, 0)
	does(t, d, writes("a", "x"), api.ErrFull)
	refuses(t, 2, []call{writes("a", "12")}, writes("", "345"), api.ErrArg)
}

// P17.1: a Cut at each place of a file, and beside it; names that are none.
func TestCut(t *testing.T) {
	for n := range 6 {
		b := "12345"[:n]
		cs := []call{writes("a", b), writes("b", "other")}
		for at := -3; at < 9; at++ {
			if at < 0 || at > n {
				refuses(t, 20, cs, cuts("a", at), api.ErrArg)
				continue
			}
			has(t, made(t, 20, behind(cs, cuts("a", at))...), files{"a": b[:at], "b": "other"}, 15-at)
			has(t, made(t, 20, behind(cs, cuts("a", at), writes("a", "xy"))...), files{"a": b[:at] + "xy", "b": "other"}, 13-at)
		}
		for _, at := range []int{math.MinInt, math.MinInt + 1, -1 << 32, 1 << 32, math.MaxInt - 1, math.MaxInt} {
			refuses(t, 20, cs, cuts("a", at), api.ErrArg)
		}
		for _, at := range []int{math.MinInt, -1, 0, 1, math.MaxInt} {
			refuses(t, 20, cs, cuts("c", at), api.ErrNone)
			refuses(t, 20, cs, cuts("", at), api.ErrNone)
		}
	}
}

// P17.1: a Cut takes safe bytes away for ever, and leaves no more of them safe; such as weren't safe it doesn't make so.
func TestCutSafe(t *testing.T) {
	for safe := range 5 {
		for all := safe; all < 5; all++ {
			for at := range all + 1 {
				for keep := range 8 {
					cs := []call{writes("a", "1234"[:safe]), syncs("a"), flushes(), writes("a", "1234"[safe:all]), cuts("a", at), writes("a", "xyz"), crashes(keep)}
					left := min(at+3, min(safe, at)+keep)
					has(t, made(t, 20, cs...), files{"a": ("1234"[:at] + "xyz")[:left]}, 20-left)
				}
			}
		}
	}
}

// P17.1: Read answers a file's bytes, and ErrNone without one; Names tell the directory's names byte by byte, and no other ones.
func TestReadNames(t *testing.T) {
	d := empty(t, 20)
	none := func(names ...string) {
		t.Helper()
		for _, name := range names {
			if b, e := d.Read(name); len(b) != 0 || e != api.ErrNone {
				t.Errorf("Read(%q): %q, %d", name, b, e)
			}
		}
	}
	none("", "a", "b")
	if names := d.Names(); len(names) != 0 {
		t.Errorf("Names: %q", names)
	}
	all := []string{"b", "a", "B", "é", "aa", "\xff", "a.", "Z", " ", "\x00", "10", "9"}
	for i, name := range all {
		none(name)
		does(t, d, writes(name, string(rune('a'+i))), api.OK)
		if b, e := d.Read(name); string(b) != string(rune('a'+i)) || e != api.OK {
			t.Errorf("Read(%q): %q, %d", name, b, e)
		}
	}
	want := []string{"\x00", " ", "10", "9", "B", "Z", "a", "a.", "aa", "b", "é", "\xff"}
	if got := d.Names(); !slices.Equal(got, want) {
		t.Errorf("Names: %q, want %q", got, want)
	}
	does(t, d, flushes(), api.OK)
	does(t, d, removes("a."), api.OK)
	does(t, d, renames("é", "c"), api.OK)
	want = []string{"\x00", " ", "10", "9", "B", "Z", "a", "aa", "b", "c", "\xff"}
	if got := d.Names(); !slices.Equal(got, want) {
		t.Errorf("Names: %q, want %q", got, want)
	}
	none("", "a.", "é", "A")
}

// P17.1: a file takes room as long as one of the directories says it, and once if both do.
func TestFree(t *testing.T) {
	safe := []call{writes("a", "123"), syncs("a"), writes("b", "4567"), flushes()}
	for _, x := range []struct {
		cs   []call
		want files
		free int
	}{
		{nil, files{"a": "123", "b": "4567"}, 13},
		{[]call{removes("a")}, files{"b": "4567"}, 13},
		{[]call{removes("a"), removes("b")}, files{}, 13},
		{[]call{removes("a"), flushes()}, files{"b": "4567"}, 16},
		{[]call{removes("a"), removes("b"), flushes()}, files{}, 20},
		{[]call{removes("a"), writes("a", "8")}, files{"a": "8", "b": "4567"}, 12},
		{[]call{removes("a"), writes("a", "8"), removes("a")}, files{"b": "4567"}, 13},
		{[]call{removes("a"), writes("a", "8"), flushes()}, files{"a": "8", "b": "4567"}, 15},
		{[]call{removes("a"), writes("a", "8"), crashes(9)}, files{"a": "123", "b": "4567"}, 13},
		{[]call{renames("a", "c")}, files{"c": "123", "b": "4567"}, 13},
		{[]call{renames("a", "c"), writes("a", "8")}, files{"a": "8", "c": "123", "b": "4567"}, 12},
		{[]call{renames("a", "c"), writes("c", "8")}, files{"c": "1238", "b": "4567"}, 12},
		{[]call{renames("a", "c"), removes("c")}, files{"b": "4567"}, 13},
		{[]call{renames("a", "c"), removes("c"), flushes()}, files{"b": "4567"}, 16},
		{[]call{renames("a", "b")}, files{"b": "123"}, 13},
		{[]call{renames("a", "b"), flushes()}, files{"b": "123"}, 17},
		{[]call{renames("a", "b"), renames("b", "a")}, files{"a": "123"}, 13},
		{[]call{renames("a", "b"), crashes(0)}, files{"a": "123", "b": ""}, 17},
		{[]call{renames("a", "c"), renames("b", "a"), renames("c", "b")}, files{"a": "4567", "b": "123"}, 13},
		{[]call{writes("c", "89"), renames("c", "b")}, files{"a": "123", "b": "89"}, 11},
		{[]call{writes("c", "89"), renames("b", "c")}, files{"a": "123", "c": "4567"}, 13},
		{[]call{writes("c", "89"), removes("c")}, files{"a": "123", "b": "4567"}, 13},
		{[]call{writes("c", "89"), crashes(9)}, files{"a": "123", "b": "4567"}, 13},
		{[]call{cuts("a", 1)}, files{"a": "1", "b": "4567"}, 15},
		{[]call{crashes(1)}, files{"a": "123", "b": "4"}, 16},
		{[]call{crashes(0), removes("b")}, files{"a": "123"}, 17},
		{[]call{removes("b"), crashes(2), removes("b")}, files{"a": "123"}, 15},
	} {
		d := made(t, 20, behind(safe, x.cs...)...)
		has(t, d, x.want, x.free)
		does(t, d, writes("n", strings.Repeat("x", x.free+1)), api.ErrFull)
		does(t, d, writes("n", strings.Repeat("x", x.free)), api.OK)
		if got := d.Free(); got != 0 {
			t.Errorf("%v: free %d of a full disk", x.cs, got)
		}
	}
}

// P17.2: what Sync makes safe is the bytes, what Flush does is the names, and neither does the other's.
func TestSyncFlush(t *testing.T) {
	for _, x := range []struct {
		cs   []call
		want files
	}{
		{[]call{writes("a", "12")}, files{}},
		{[]call{writes("a", "12"), syncs("a")}, files{}},
		{[]call{writes("a", "12"), flushes()}, files{"a": ""}},
		{[]call{writes("a", "12"), syncs("a"), flushes()}, files{"a": "12"}},
		{[]call{writes("a", "12"), flushes(), syncs("a")}, files{"a": "12"}},
		{[]call{writes("a", "12"), flushes(), syncs("a"), writes("a", "3")}, files{"a": "12"}},
		{[]call{writes("a", "12"), flushes(), syncs("a"), writes("a", "3"), flushes()}, files{"a": "12"}},
		{[]call{writes("a", "12"), flushes(), syncs("a"), writes("a", "3"), syncs("a")}, files{"a": "123"}},
		{[]call{writes("a", "12"), writes("b", "3"), flushes(), syncs("a")}, files{"a": "12", "b": ""}},
		{[]call{writes("a", "12"), flushes(), writes("b", "3"), syncs("a"), syncs("b")}, files{"a": "12"}},
		{[]call{writes("a", ""), syncs("a"), flushes()}, files{"a": ""}},
		{[]call{flushes(), writes("a", "12"), syncs("a")}, files{}},
	} {
		d := made(t, 9, behind(x.cs, crashes(0))...)
		free := 9
		for _, b := range x.want {
			free -= len(b)
		}
		has(t, d, x.want, free)
	}
	cs := []call{writes("a", "12"), flushes()}
	refuses(t, 9, nil, syncs("a"), api.ErrNone)
	refuses(t, 9, cs, syncs("b"), api.ErrNone)
	refuses(t, 9, cs, syncs(""), api.ErrNone)
	refuses(t, 9, behind(cs, removes("a")), syncs("a"), api.ErrNone)
}

// P17.2: a Rename takes the place of the file that was there, and of none; the same name stays.
func TestRename(t *testing.T) {
	cs := []call{writes("a", "12"), syncs("a"), writes("b", "3"), syncs("b"), flushes(), writes("c", "45"), syncs("c")}
	for _, x := range []struct {
		from, to string
		want     files
		free     int
		flushed  files
	}{
		{"a", "a", files{"a": "12", "b": "3", "c": "45"}, 15, files{"a": "12", "b": "3", "c": "45"}},
		{"a", "b", files{"b": "12", "c": "45"}, 15, files{"b": "12", "c": "45"}},
		{"a", "c", files{"b": "3", "c": "12"}, 17, files{"b": "3", "c": "12"}},
		{"a", "d", files{"b": "3", "c": "45", "d": "12"}, 15, files{"b": "3", "c": "45", "d": "12"}},
		{"c", "c", files{"a": "12", "b": "3", "c": "45"}, 15, files{"a": "12", "b": "3", "c": "45"}},
		{"c", "a", files{"a": "45", "b": "3"}, 15, files{"a": "45", "b": "3"}},
		{"c", "\x00", files{"a": "12", "b": "3", "\x00": "45"}, 15, files{"a": "12", "b": "3", "\x00": "45"}},
	} {
		d := made(t, 20, behind(cs, renames(x.from, x.to))...)
		has(t, d, x.want, x.free)
		does(t, d, crashes(0), api.OK)
		has(t, d, files{"a": "12", "b": "3"}, 17)
		d = made(t, 20, behind(cs, renames(x.from, x.to), flushes(), crashes(0))...)
		free := 20
		for _, b := range x.flushed {
			free -= len(b)
		}
		has(t, d, x.flushed, free)
	}
	for _, to := range []string{"", "a", "d"} {
		refuses(t, 20, cs, renames("d", to), api.ErrNone)
		refuses(t, 20, cs, renames("", to), api.ErrNone)
		refuses(t, 20, behind(cs, removes("a")), renames("a", to), api.ErrNone)
		refuses(t, 20, nil, renames("a", to), api.ErrNone)
	}
	refuses(t, 20, cs, renames("a", ""), api.ErrArg)
	refuses(t, 20, cs, renames("c", ""), api.ErrArg)
}

// P17.2: a file is the same under its new name: what is written and synced there is there behind a crash, under the name that was safe.
func TestRenamedFile(t *testing.T) {
	cs := []call{writes("a", "12"), flushes(), renames("a", "b"), writes("b", "34"), syncs("b"), writes("b", "56")}
	has(t, made(t, 9, cs...), files{"b": "123456"}, 3)
	has(t, made(t, 9, behind(cs, crashes(0))...), files{"a": "1234"}, 5)
	has(t, made(t, 9, behind(cs, crashes(1))...), files{"a": "12345"}, 4)
	has(t, made(t, 9, behind(cs, flushes(), crashes(1))...), files{"b": "12345"}, 4)
	has(t, made(t, 9, behind(cs, writes("a", "7"), syncs("a"), crashes(0))...), files{"a": "1234"}, 5)
	has(t, made(t, 9, behind(cs, cuts("b", 1), crashes(9))...), files{"a": "1"}, 8)
}

// P17.2: a removed file is none; a crash brings it back until the directory is flushed.
func TestRemove(t *testing.T) {
	cs := []call{writes("a", "12"), syncs("a"), writes("b", "3"), flushes(), writes("c", "45"), syncs("c")}
	for _, x := range []struct {
		name          string
		want, flushed files
		free, at      int
	}{
		{"a", files{"b": "3", "c": "45"}, files{"b": "", "c": "45"}, 15, 18},
		{"b", files{"a": "12", "c": "45"}, files{"a": "12", "c": "45"}, 15, 16},
		{"c", files{"a": "12", "b": "3"}, files{"a": "12", "b": ""}, 17, 18},
	} {
		d := made(t, 20, behind(cs, removes(x.name))...)
		has(t, d, x.want, x.free)
		does(t, d, removes(x.name), api.ErrNone)
		does(t, d, crashes(0), api.OK)
		has(t, d, files{"a": "12", "b": ""}, 18)
		has(t, made(t, 20, behind(cs, removes(x.name), flushes(), crashes(0))...), x.flushed, x.at)
	}
	refuses(t, 20, nil, removes("a"), api.ErrNone)
	refuses(t, 20, cs, removes("d"), api.ErrNone)
	refuses(t, 20, cs, removes(""), api.ErrNone)
	refuses(t, 20, behind(cs, removes("a")), removes("a"), api.ErrNone)
	refuses(t, 20, behind(cs, renames("a", "d")), removes("a"), api.ErrNone)
}

// P17.3: each file keeps of its own bytes the safe ones and as many behind as are told, and all of them are safe then.
func TestCrash(t *testing.T) {
	for _, keep := range []int{math.MinInt, -1 << 32, -2, -1, 0, 1, 2, 3, 4, 5, 6, 1 << 32, math.MaxInt - 1, math.MaxInt} {
		for safe := range 4 {
			for more := range 6 {
				b, other := "abcdefghi"[:safe+more], "123"
				cs := []call{writes("a", b[:safe]), syncs("a"), writes("b", other), flushes(), writes("a", b[safe:]), writes("c", "new"), crashes(keep)}
				left := safe + min(more, max(keep, 0))
				want := files{"a": b[:left], "b": other[:min(3, max(keep, 0))]}
				free := 50 - len(want["a"]) - len(want["b"])
				d := made(t, 50, cs...)
				has(t, d, want, free)
				for range 2 {
					does(t, d, crashes(0), api.OK)
					has(t, d, want, free)
				}
				does(t, d, writes("a", "XY"), api.OK)
				does(t, d, crashes(1), api.OK)
				has(t, d, files{"a": b[:left] + "X", "b": want["b"]}, free-1)
			}
		}
	}
}

// P17.3: the directory becomes the safe one, and stays another thing than it: what is named behind a crash must be flushed anew.
func TestCrashNames(t *testing.T) {
	for _, n := range []int{0, 1, 9} {
		d := made(t, 20, crashes(n), writes("a", "12"), syncs("a"), crashes(n))
		has(t, d, files{}, 20)
		d = made(t, 20, writes("a", "12"), syncs("a"), flushes(), removes("a"), writes("a", "345"), syncs("a"), writes("b", "6"), syncs("b"), crashes(n))
		has(t, d, files{"a": "12"}, 18)
		does(t, d, renames("a", "b"), api.OK)
		does(t, d, writes("c", "7"), api.OK)
		has(t, d, files{"b": "12", "c": "7"}, 17)
		does(t, d, crashes(n), api.OK)
		has(t, d, files{"a": "12"}, 18)
		does(t, d, removes("a"), api.OK)
		does(t, d, flushes(), api.OK)
		does(t, d, crashes(n), api.OK)
		has(t, d, files{}, 20)
	}
}

// What is flushed stays as it was, whatever becomes of the directory.
func TestFlushed(t *testing.T) {
	cs := []call{writes("a", "1"), syncs("a"), writes("b", "2"), syncs("b"), flushes()}
	for _, more := range [][]call{{removes("a"), removes("b")}, {renames("a", "b")}, {renames("b", "a")}, {writes("c", "3"), syncs("c")}, {renames("a", "c"), renames("b", "a"), renames("c", "b")}} {
		has(t, made(t, 9, behind(cs, behind(more, crashes(0))...)...), files{"a": "1", "b": "2"}, 7)
	}
}

// ofEach is one call of each sort that may fail, each of which does something to a disk that has files a and b.
func ofEach() []call {
	return []call{writes("a", "x"), cuts("a", 1), syncs("a"), renames("a", "c"), removes("b"), flushes()}
}

// P17.4: the first n calls do what they do, each one behind does nothing, until a crash: for each sort of call at each place.
func TestFail(t *testing.T) {
	start := []call{writes("a", "12"), writes("b", "34"), flushes()}
	// Each is done without an error, whichever of them are done ahead.
	steps := []call{writes("a", "5"), writes("b", "6"), syncs("a"), cuts("b", 1), renames("b", "c"), flushes(), writes("d", ""), removes("c")}
	for _, n := range []int{math.MinInt, -1, 0, 1, 2, 3, 4, 5, 6, 7, 8, 9, math.MaxInt} {
		for _, keep := range []int{0, 1} {
			done := min(max(n, 0), len(steps))
			d := made(t, 99, behind(start, fails(n))...)
			twin := made(t, 99, behind(start, steps[:done]...)...)
			for i, c := range steps {
				want := api.OK
				if i >= done {
					want = api.ErrTorn
				}
				does(t, d, c, want)
			}
			if done < len(steps) {
				for range 3 {
					for _, c := range ofEach() {
						does(t, d, c, api.ErrTorn)
					}
				}
			}
			alike(t, d, twin)
			does(t, d, crashes(keep), api.OK)
			does(t, twin, crashes(keep), api.OK)
			alike(t, d, twin)
			for range 3 {
				does(t, d, writes("n", "x"), api.OK)
			}
		}
	}
}

// P17.4: each sort of call fails ahead of all other errors, and changes nothing; a Write that isn't the first one that fails, too.
func TestFailEach(t *testing.T) {
	cs := []call{writes("a", "12"), syncs("a"), flushes(), writes("a", "34"), writes("b", "56")}
	wrong := []call{writes("", "x"), writes("a", strings.Repeat("x", 100)), cuts("n", 0), cuts("a", -1), cuts("a", 9), syncs("n"), renames("n", "a"), renames("n", ""), renames("a", ""), removes("n")}
	for _, first := range behind(ofEach(), wrong...) {
		for _, c := range behind(behind(ofEach(), writes("a", "torn"), writes("new", "torn")), wrong...) {
			d, twin := made(t, 50, behind(cs, fails(0))...), made(t, 50, cs...)
			does(t, d, first, api.ErrTorn)
			does(t, d, c, api.ErrTorn)
			alike(t, d, twin)
			does(t, d, crashes(1), api.OK)
			does(t, twin, crashes(1), api.OK)
			alike(t, d, twin)
		}
	}
}

// P17.4: of a Write that is the first call that fails half is laid, behind the file's bytes or in a new file, and none of it is safe.
func TestFailWrite(t *testing.T) {
	for n := range 12 {
		b := "abcdefghijkl"[:n]
		half := b[:n/2]
		for _, k := range []int{math.MinInt, -2, -1, 0, 1, 2} {
			steps := []call{writes("a", "12"), syncs("a"), flushes(), fails(k)}
			for range k {
				steps = append(steps, syncs("a"))
			}
			d := made(t, 20, steps...)
			does(t, d, writes("a", b), api.ErrTorn)
			has(t, d, files{"a": "12" + half}, 18-n/2)
			does(t, d, writes("a", b), api.ErrTorn)
			does(t, d, syncs("a"), api.ErrTorn)
			has(t, d, files{"a": "12" + half}, 18-n/2)
			does(t, d, crashes(1), api.OK)
			has(t, d, files{"a": "12" + half[:min(1, n/2)]}, 18-min(1, n/2))

			d = made(t, 20, steps...)
			does(t, d, writes("new", b), api.ErrTorn)
			want := files{"a": "12"}
			if n >= 2 {
				want["new"] = half
			}
			has(t, d, want, 18-n/2)
			does(t, d, crashes(9), api.OK)
			has(t, d, files{"a": "12"}, 18)
		}
	}
}

// P17.4: a Write that fails first lays nothing without a name, or where there is no room for all; not even where half would have some.
func TestFailWriteNothing(t *testing.T) {
	for n := range 12 {
		b := strings.Repeat("x", n)
		d := made(t, 7, writes("a", "12"), fails(0))
		does(t, d, writes("", b), api.ErrTorn)
		has(t, d, files{"a": "12"}, 5)
		d = made(t, 7, writes("a", "12"), fails(0))
		does(t, d, writes("a", b), api.ErrTorn)
		laid := n / 2
		if n > 5 {
			laid = 0
		}
		has(t, d, files{"a": "12" + b[:laid]}, 5-laid)
		does(t, d, writes("a", "xx"), api.ErrTorn)
		has(t, d, files{"a": "12" + b[:laid]}, 5-laid)
	}
}

// P17.4: a file that a Write made as it failed is as any other one, once there is power again by a new Fail.
func TestFailTornFile(t *testing.T) {
	d := made(t, 20, fails(0))
	does(t, d, writes("new", "1234"), api.ErrTorn)
	does(t, d, fails(3), api.OK)
	does(t, d, writes("new", "5"), api.OK)
	does(t, d, syncs("new"), api.OK)
	does(t, d, flushes(), api.OK)
	does(t, d, crashes(0), api.OK)
	has(t, d, files{"new": "125"}, 17)
}

// P17.4: a call with an error of its own is one of the first n; what only looks isn't.
func TestFailCounts(t *testing.T) {
	wrong := []struct {
		c    call
		want api.Errno
	}{
		{writes("", "x"), api.ErrArg}, {writes("a", "too much"), api.ErrFull}, {cuts("n", 0), api.ErrNone}, {cuts("a", 9), api.ErrArg},
		{syncs("n"), api.ErrNone}, {renames("n", "m"), api.ErrNone}, {renames("a", ""), api.ErrArg}, {removes("n"), api.ErrNone},
	}
	for n := range len(wrong) + 1 {
		d := made(t, 5, writes("a", "12"), fails(n))
		for i, x := range wrong {
			if _, e := d.Read("a"); e != api.OK || d.Free() != 3 || len(d.Names()) != 1 {
				t.Errorf("looked at behind %d calls: %d", i, e)
			}
			d.Read("n")
			if i >= n {
				x.want = api.ErrTorn
			}
			does(t, d, x.c, x.want)
		}
	}
}

// P17.4: Fail counts anew, whatever it counted ahead and whether it failed already, also for the half of a Write; a crash ends it, also ahead of the first call that fails.
func TestFailAnew(t *testing.T) {
	for one := range 4 {
		for used := range 6 {
			for two := range 4 {
				d := made(t, 99, writes("a", "1"), fails(one))
				for i := range used {
					d.Sync("a")
					if i == one {
						does(t, d, writes("a", "xx"), api.ErrTorn)
					}
				}
				does(t, d, fails(two), api.OK)
				for range two {
					does(t, d, syncs("a"), api.OK)
				}
				does(t, d, writes("a", "23"), api.ErrTorn)
				has(t, d, files{"a": "12"}, 97)
				does(t, d, writes("a", "45"), api.ErrTorn)
				has(t, d, files{"a": "12"}, 97)

				d = made(t, 99, writes("a", "1"), syncs("a"), flushes(), fails(one))
				for range used {
					d.Sync("a")
				}
				does(t, d, crashes(0), api.OK)
				for range 6 {
					does(t, d, writes("a", "x"), api.OK)
				}
				has(t, d, files{"a": "1xxxxxx"}, 92)
			}
		}
	}
}

// What is handed in is neither changed nor kept, its spare room included.
func TestHandedIn(t *testing.T) {
	room := []byte("abcdef")
	d := made(t, 99, writes("n", ""))
	for _, name := range []string{"n", "m"} {
		if e := d.Write(name, room[:2]); e != api.OK {
			t.Fatal(e)
		}
		does(t, d, writes(name, "12"), api.OK)
		does(t, d, cuts(name, 1), api.OK)
		does(t, d, writes(name, "3456"), api.OK)
	}
	d.Fail(0)
	d.Write("k", room[:4])
	if string(room) != "abcdef" {
		t.Errorf("what was handed in is now %q", room)
	}
	copy(room, "spoilt")
	has(t, d, files{"n": "a3456", "m": "a3456", "k": "ab"}, 87)
}

// An answer is new memory: neither the disk nor another answer knows what becomes of it, and it knows nothing of what becomes of them.
func TestAnswers(t *testing.T) {
	d := made(t, 99, writes("a", "1234"), writes("b", "5"), syncs("a"), flushes(), cuts("a", 3))
	one, _ := d.Read("a")
	two, _ := d.Read("a")
	names, others := d.Names(), d.Names()
	one, names = one[:cap(one)], names[:cap(names)]
	for i := range one {
		one[i] = 'X'
	}
	for i := range names {
		names[i] = "X"
	}
	_ = append(one[:1], "YYYYYYYY"...)
	_ = append(names[:1], "Y", "Y", "Y")
	has(t, d, files{"a": "123", "b": "5"}, 95)
	does(t, d, cuts("a", 0), api.OK)
	does(t, d, writes("a", "98"), api.OK)
	does(t, d, removes("b"), api.OK)
	if string(two) != "123" || !slices.Equal(others, []string{"a", "b"}) {
		t.Errorf("the other answers are now %q, %q", two, others)
	}
	has(t, d, files{"a": "98"}, 96)
}

// Two disks know nothing of each other.
func TestDisks(t *testing.T) {
	a, b := made(t, 9, writes("f", "12")), made(t, 20, writes("f", "3"), flushes())
	does(t, a, fails(0), api.OK)
	does(t, a, syncs("f"), api.ErrTorn)
	does(t, b, syncs("f"), api.OK)
	does(t, b, crashes(0), api.OK)
	does(t, b, removes("f"), api.OK)
	has(t, a, files{"f": "12"}, 7)
	has(t, b, files{}, 19)
	does(t, a, crashes(0), api.OK)
	has(t, a, files{}, 9)
	has(t, b, files{}, 19)
}

// Large bytes and many files.
func TestLarge(t *testing.T) {
	d := empty(t, 1<<22)
	want, free := files{}, 1<<22
	for i := range 300 {
		name, b := fmt.Sprintf("f%d", i), strings.Repeat(string(rune('a'+i%26)), 7*i)
		for _, part := range []string{b[:i], b[i:]} {
			does(t, d, writes(name, part), api.OK)
		}
		want[name], free = b, free-len(b)
	}
	has(t, d, want, free)
	big := strings.Repeat("\x00\x01\x02\x03", 1<<18)
	does(t, d, writes("big", big), api.OK)
	want["big"], free = big, free-len(big)
	has(t, d, want, free)
}
