package scan_test

import (
	"fmt"
	"slices"
	"testing"

	"vellum/api"
	"vellum/scan"
)

// checkLikeModel compares all functions with the model.
func checkLikeModel(t *testing.T, what string, i api.Image, more []api.Place) api.Listing {
	t.Helper()
	l, m := scan.Scan(i, more), modelOf(i)
	checkEqual(t, what, l, m.scan(more))
	if got, want := scan.Text(i, l), m.text(l); got != want {
		t.Fatalf("%s: text\n%s, want\n%s", what, got, want)
	}
	return l
}

func TestP5_1_ScanIsThatOfTheModel(t *testing.T) {
	r := random(2)
	issues, classes, thunks := map[api.Errno]int{}, map[byte]int{}, 0
	for n := range 2000 {
		i, more := r.image(), r.more()
		l := checkLikeModel(t, fmt.Sprintf("image %d", n), i, more)
		for _, routine := range l.Routines {
			if routine.Thunk {
				thunks++
			}
			for _, issue := range routine.Issues {
				issues[issue.Kind]++
			}
		}
		for _, issue := range l.Issues {
			issues[issue.Kind]++
		}
		for _, bank := range l.Classes {
			for _, class := range bank {
				classes[class]++
			}
		}
	}
	for _, kind := range []api.Errno{api.ErrIllegal, api.ErrOverlap, api.ErrTable, api.ErrBank, api.ErrExit} {
		if issues[kind] < 1000 {
			t.Errorf("only %d issues of kind %d", issues[kind], kind)
		}
	}
	for class := byte(api.Unknown); class <= api.Const; class++ {
		if classes[class] < 1000 {
			t.Errorf("only %d bytes of class %d", classes[class], class)
		}
	}
	if thunks < 200 {
		t.Errorf("only %d thunks", thunks)
	}
}

func TestP5_5_WhyOfRandomImages(t *testing.T) {
	r := random(3)
	long := 0
	for n := range 200 {
		i := r.image()
		l := scan.Scan(i, r.more())
		for bank := -1; bank < 5; bank++ {
			for off := range area {
				for _, p := range []api.Place{place(bank, off), place(bank, 0x1000+off), place(bank, 0x0ff0+off), place(bank, 0x1ff0+off)} {
					if path := checkWhy(t, fmt.Sprintf("image %d", n), i, l, p); len(path) > 5 {
						long++
					}
				}
			}
		}
	}
	if long < 1000 {
		t.Errorf("only %d long paths", long)
	}
}

func TestP5_6_ResolveOfRandomListings(t *testing.T) {
	r := random(4)
	var counts [2]int
	for range 3000 {
		// Each entry occurs once.
		var l api.Listing
		for n := range 1 + r.below(12) {
			l.Routines = append(l.Routines, thunk(place(0, n), place(0, r.below(14))))
			if r.below(4) == 0 {
				l.Routines[n] = routine(place(0, n))
			}
		}
		slices.SortFunc(l.Routines, func(a, b api.Routine) int { return r.below(3) - 1 })
		for n := range 14 {
			p, ok := scan.Resolve(l, place(0, n))
			want, wantOK := modelOf(api.Image{}).resolve(l, place(0, n))
			if p != want || ok != wantOK {
				t.Fatalf("%v: Resolve(%d): %v, %v, want %v, %v", l.Routines, n, p, ok, want, wantOK)
			}
			if ok {
				counts[1]++
			} else {
				counts[0]++
			}
		}
	}
	if min(counts[0], counts[1]) < 1000 {
		t.Errorf("only %v results", counts)
	}
}

func TestP5_8_SuccessorsAreInTheRoutineOrIssues(t *testing.T) {
	r := random(5)
	for range 500 {
		i := r.image()
		m := modelOf(i)
		for _, routine := range scan.Scan(i, r.more()).Routines {
			if routine.Thunk {
				continue
			}
			known := map[api.Place]bool{}
			for _, item := range routine.Code {
				known[item.At] = true
			}
			for _, issue := range routine.Issues {
				known[issue.At] = true
			}
			for _, item := range routine.Code {
				for p := range m.ways(item.At).next {
					if !known[p] {
						t.Fatalf("%s: %s is missing", showRoutine(routine), show(p))
					}
				}
			}
		}
	}
}

func TestP5_8_FurtherEntriesOnlyAddRoutines(t *testing.T) {
	r := random(6)
	added := 0
	for range 500 {
		i, more := r.image(), r.more()
		before, after := scan.Scan(i, more), scan.Scan(i, append(r.more(), more...))
		for _, routine := range before.Routines {
			if !slices.ContainsFunc(after.Routines, func(other api.Routine) bool { return sameRoutine(routine, other) }) {
				t.Fatalf("%s was changed:\n%q", showRoutine(routine), showRoutines(after))
			}
		}
		added += len(after.Routines) - len(before.Routines)
	}
	if added < 500 {
		t.Errorf("only %d routines were added", added)
	}
}

func TestP5_8_OtherBytesHaveNoInfluence(t *testing.T) {
	r := random(7)
	replaced := 0
	for n := range 500 {
		i, more := r.image(), r.more()
		before := scan.Scan(i, more)
		fixed := map[[2]int]bool{}
		for _, routine := range before.Routines {
			for _, issue := range routine.Issues {
				for k := range 7 {
					fixed[[2]int{issue.At.Bank, int(issue.At.Addr&0x0fff) + k}] = true
				}
			}
		}
		other := i
		other.Banks = nil
		for bank, bytes := range i.Banks {
			b := []byte(bytes)
			for off := range b {
				if class := before.Classes[bank][off]; (class == api.Unknown || class == api.Const) && !fixed[[2]int{bank, off}] {
					b[off] = byte(r.next())
					replaced++
				}
			}
			other.Banks = append(other.Banks, string(b))
		}
		after := scan.Scan(other, more)
		checkEqual(t, fmt.Sprintf("image %d", n), after, before)
	}
	if replaced < 100000 {
		t.Errorf("only %d bytes were replaced", replaced)
	}
}

func TestP1_ArgumentsStayAndResultsAreNew(t *testing.T) {
	r := random(8)
	for range 200 {
		i, more := r.image(), r.more()
		given := api.Image{Banks: slices.Clone(i.Banks), Entry: i.Entry, Vector: i.Vector, Data: slices.Clone(i.Data)}
		givenMore := slices.Clone(more)
		l := scan.Scan(i, more)
		same := cloned(l)
		for bank := range l.Classes {
			for off := range l.Classes[bank] {
				l.Classes[bank][off] = 77
			}
			_ = append(l.Classes[bank], 77)
		}
		for n := range l.Routines {
			spoil(&l.Routines[n])
			l.Routines[n].Entry = place(-77, 77)
		}
		checkUnspoiled(t, l)
		checkEqual(t, "again", scan.Scan(i, more), same)
		path := scan.Why(i, same, place(0, int(i.Entry)))
		for k := range path {
			path[k] = place(-77, 77)
		}
		scan.Text(i, same)
		scan.Resolve(same, place(0, int(i.Entry)))
		checkEqual(t, "after Why, Text and Resolve", scan.Scan(i, more), same)
		if !slices.Equal(i.Banks, given.Banks) || !slices.Equal(i.Data, given.Data) || i.Entry != given.Entry || i.Vector != given.Vector || !slices.Equal(more, givenMore) {
			t.Fatal("an argument was changed")
		}
	}
}

// spoil overwrites the lists of a routine, and what might be behind them.
func spoil(r *api.Routine) {
	for k := range r.Code {
		r.Code[k].At = r.Entry
	}
	for k := range r.Calls {
		r.Calls[k] = r.Entry
	}
	for k := range r.Issues {
		r.Issues[k].At = r.Entry
	}
	_, _, _ = append(r.Code, api.Item{}), append(r.Calls, place(-77, 77)), append(r.Issues, api.Issue{Kind: 77})
}

// checkUnspoiled checks that no list of a routine was overwritten with those of another one.
func checkUnspoiled(t *testing.T, l api.Listing) {
	t.Helper()
	entries := map[api.Place]bool{}
	for _, r := range l.Routines {
		list := slices.Clone(r.Calls)
		for _, item := range r.Code {
			list = append(list, item.At)
		}
		for _, issue := range r.Issues {
			list = append(list, issue.At)
		}
		for _, p := range list {
			if p != list[0] {
				t.Fatal("routines share memory")
			}
		}
		if len(list) > 0 && entries[list[0]] {
			t.Fatal("routines share memory")
		}
		if len(list) > 0 {
			entries[list[0]] = true
		}
	}
}

// listing returns a listing that is that of no image.
func (r *random) listing() api.Listing {
	var l api.Listing
	for range r.below(5) {
		classes := make([]byte, pick(r, 0, r.below(0x40), 0x1000))
		for k := range classes {
			classes[k] = byte(r.below(8))
		}
		l.Classes = append(l.Classes, classes)
	}
	for range r.below(6) {
		routine := api.Routine{Entry: r.place(), Thunk: r.below(2) == 0, To: r.place()}
		for range r.below(4) {
			size := pick(r, 0, 1, 7, -1, r.below(20), int(r.next()), 1<<62, -1<<63)
			ins := api.Ins{Op: pick(r, r.below(300)-20, api.JTAB, int(r.next())), D: r.below(9), Imm: r.addr(), Aux: r.addr(), Bank: pick(r, 1, 300, 1<<60), Size: size}
			routine.Code = append(routine.Code, api.Item{At: r.place(), Ins: ins})
			routine.Issues = append(routine.Issues, api.Issue{Kind: api.Errno(r.next()), At: r.place()})
		}
		l.Routines = append(l.Routines, routine)
	}
	return l
}

func TestP1_AnyArguments(t *testing.T) {
	r := random(9)
	for range 3000 {
		i, l, p := r.image(), r.listing(), r.place()
		if len(l.Routines) > 0 && r.below(2) == 0 {
			p = l.Routines[r.below(len(l.Routines))].Entry
		}
		path := scan.Why(i, l, p)
		if len(path) > 0 && !slices.ContainsFunc(l.Routines, func(r api.Routine) bool { return r.Entry == path[0] }) {
			t.Fatalf("a path from nowhere: %v", path)
		}
		if q, ok := scan.Resolve(l, p); !ok && q != (api.Place{}) {
			t.Fatalf("Resolve: %v and false", q)
		}
		if got, want := scan.Text(i, l), modelOf(i).text(l); got != want {
			t.Fatalf("text:\n%s, want\n%s", got, want)
		}
		other := scan.Scan(r.image(), nil)
		scan.Why(i, other, p)
	}
}
