package scan_test

import (
	"testing"

	"vellum/api"
	"vellum/scan"
)

func checkText(t *testing.T, i api.Image, more []api.Place, want string) {
	t.Helper()
	if got := scan.Text(i, scan.Scan(i, more)); got != want {
		t.Errorf("%s, want\n%s", got, want)
	}
}

func TestP5_7_RoutinesAndThunks(t *testing.T) {
	i := changed(hltImage(2), 0, 0, "\x82\x0d\x00\x60\xfe\x91\x00\x00\x84\x01\xab\x1f\x70\x00\x12")
	i = changed(changed(i, 0, 0x10, encoded(api.Ins{Op: api.JMPF, Bank: 1, Imm: 0x1fab})), 1, 0x0fab, "\x06")
	checkText(t, i, nil, `routine 0:0x0000
  0:0x0000 call 0x0010
  0:0x0003 jeq 0x0003
  0:0x0005 out 0, r0
  0:0x0008 callf 1:0x1fab
  0:0x000c jeq.w 0x120f
  0:0x000f hlt
  ! 42 0:0x0005
  ! 42 0:0x000c
thunk 0:0x0010 -> 1:0x1fab
  0:0x0010 jmpf 1:0x1fab
routine 1:0x1fab
  ! 11 1:0x1fab
`)
}

func TestP5_7_IssuesOfTheListing(t *testing.T) {
	i := changed(hltImage(1), 0, 0, "\x02\x40\x00\x60\xfb\x91\x00\x00\x02")
	checkText(t, i, []api.Place{place(0, 3), place(0, 0x1001)}, `routine 0:0x0000
  0:0x0000 hlt
routine 0:0x0003
  0:0x0000 hlt
  0:0x0003 jeq 0x0000
  0:0x0005 out 0, r0
  0:0x0008 hlt
  ! 42 0:0x0005
routine 0:0x1001
  0:0x1001 mov.w r0, -1184
  0:0x1005 out 0, r0
  0:0x1008 hlt
  ! 42 0:0x1005
! 40 0:0x0003
! 40 0:0x0005
! 40 0:0x0008
! 40 0:0x1001
! 40 0:0x1005
! 40 0:0x1008
`)
}

func TestP5_7_AnyListing(t *testing.T) {
	l := api.Listing{
		Routines: []api.Routine{
			{Entry: place(-12, 0xffff), Issues: []api.Issue{{Kind: -3, At: place(63, 0xabc)}, {Kind: 1000, At: place(0, 0)}}, Calls: places(0, 0, 3)},
			{Entry: place(1, 0x10), Thunk: true, To: place(99, 0x1ABC), Code: []api.Item{{At: place(1, 0x10)}, {At: place(1, 0x11), Ins: api.Ins{Op: api.NOP, Size: 1}}}, Issues: []api.Issue{{}}},
			{},
		},
		Issues: []api.Issue{{Kind: 2, At: place(0, 1)}, {Kind: 2, At: place(0, 1)}},
	}
	want := "routine -12:0xffff\n  ! -3 63:0x0abc\n  ! 1000 0:0x0000\n" +
		"thunk 1:0x0010 -> 99:0x1abc\n  1:0x0010 \n  1:0x0011 nop\n  ! 0 0:0x0000\n" +
		"routine 0:0x0000\n! 2 0:0x0001\n! 2 0:0x0001\n"
	if got := scan.Text(api.Image{}, l); got != want {
		t.Errorf("%q, want\n%q", got, want)
	}
	if got := scan.Text(hltImage(1), api.Listing{}); got != "" {
		t.Errorf("nothing: %q", got)
	}
}
