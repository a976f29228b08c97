package fresh_test

import (
	"math"
	"testing"

	"letterlock/api"
	"letterlock/fresh"
)

// checked holds Check against the words, and answers what it tells.
func checked(t *testing.T, a asked) api.Errno {
	t.Helper()
	e := a.check()
	if want := a.ought(); e != want {
		t.Errorf("Check(%s): %v, not %v", show(a), e, want)
	}
	return e
}

// checks holds Check against the words, and against what is written out.
func checks(t *testing.T, a asked, want api.Errno) {
	t.Helper()
	if e := checked(t, a); e != want {
		t.Errorf("Check(%s): %v, not %v", show(a), e, want)
	}
}

// K3: what is told of a stamp, written out.
func TestCheck(t *testing.T) {
	const sig = "ga\x01\x01pt\x01\x04annapa\x01\x07pa\x01\x01hpt\x01\x01fa\x00"
	s := fresh.Stamp{"anna", 7, 1, "hpt\x01\x01fa\x00", sig}
	for i, c := range []struct {
		a    asked
		want api.Errno
	}{
		{asked{s, "ua\x01\x01", "anna", 7, 0}, api.OK},
		{asked{s, "ua\x01\x01", "anna", 7, math.MaxUint64}, api.OK},
		{asked{s, "ua\x01\x01", "anna", 8, 1}, api.OK},
		{asked{s, "ua\x01\x01", "anna", 12, 5}, api.OK},
		{asked{s, "ua\x01\x01", "anna", math.MaxUint64, math.MaxUint64 - 7}, api.OK},
		{asked{s, "ua\x01\x01", "anna", 6, 0}, api.ErrStale},
		{asked{s, "ua\x01\x01", "anna", 0, math.MaxUint64}, api.ErrStale},
		{asked{s, "ua\x01\x01", "anna", 8, 0}, api.ErrStale},
		{asked{s, "ua\x01\x01", "anna", 13, 5}, api.ErrStale},
		{asked{s, "ua\x01\x01", "anna", math.MaxUint64, math.MaxUint64 - 8}, api.ErrStale},
		{asked{s, "ua\x01\x01", "ben", 7, 0}, api.ErrName},
		{asked{s, "ua\x01\x01", "", 7, 0}, api.ErrName},
		{asked{s, "ua\x01\x01", "ann", 7, 0}, api.ErrName},
		{asked{s, "ua\x01\x01", "Anna", 6, 0}, api.ErrName}, // what is asked for may be any text
		{asked{s, "ua\x01\x02", "anna", 7, 0}, api.ErrSig},
		{asked{s, "ua\x01\x02", "ben", 6, 0}, api.ErrSig},
		{asked{s, "uua\x01\x01", "anna", 7, 0}, api.ErrSig},
		{asked{s, "a\x01\x01", "anna", 7, 0}, api.ErrArg},
		{asked{s, "ha\x01\x01", "anna", 7, 0}, api.ErrArg},
		{asked{s, "", "anna", 7, 0}, api.ErrArg},
		{asked{s, "ua\x01\x01x", "ben", 0, 0}, api.ErrArg},
		{asked{fresh.Stamp{"ben", 7, 1, s.Root, sig}, "ua\x01\x01", "ben", 7, 0}, api.ErrSig},
		{asked{fresh.Stamp{"anna", 8, 1, s.Root, sig}, "ua\x01\x01", "anna", 8, 0}, api.ErrSig},
		{asked{fresh.Stamp{"anna", 7, 2, s.Root, sig}, "ua\x01\x01", "anna", 7, 0}, api.ErrSig},
		{asked{fresh.Stamp{"anna", 7, 1, "hpt\x01\x01fa\x01\x01", sig}, "ua\x01\x01", "anna", 7, 0}, api.ErrSig},
		{asked{fresh.Stamp{"anna", 7, 1, s.Root, "ga\x01\x02" + sig[4:]}, "ua\x01\x01", "anna", 7, 0}, api.ErrSig},
		{asked{fresh.Stamp{"anna", 7, 1, s.Root, "ga\x01\x02" + sig[4:]}, "ua\x01\x02", "anna", 7, 0}, api.OK}, // another one may be of that name
		{asked{fresh.Stamp{"Anna", 7, 1, s.Root, sig}, "ua\x01\x01", "Anna", 7, 0}, api.ErrArg},
		{asked{fresh.Stamp{"anna", 7, 9, s.Root, sig}, "ua\x01\x01", "anna", 7, 0}, api.ErrArg},
		{asked{fresh.Stamp{"anna", 7, 1, s.Root, s.Root}, "ua\x01\x01", "anna", 7, 0}, api.ErrArg},
		{asked{fresh.Stamp{"anna", 7, 1, "", sig}, "ua\x01\x01", "anna", 7, 0}, api.ErrArg},
		{asked{fresh.Stamp{}, "ua\x01\x01", "", 0, 0}, api.ErrArg},
		{asked{}, api.ErrArg},
	} {
		if e := checked(t, c.a); e != c.want {
			t.Errorf("%d: %v, not %v", i, e, c.want)
		}
	}
}

// K3: each time, of each stamp, with each bound: sums of these go round, and must not.
func TestTimes(t *testing.T) {
	fine, stale := 0, 0
	for _, time := range times {
		s, e := given{anna, "anna", time, files(2)}.ought()
		if e != api.OK {
			t.Fatal(e)
		}
		for _, bound := range times {
			nows := append([]uint64{time - 1, time, time + 1, time + bound - 1, time + bound, time + bound + 1, time - bound}, times...)
			for _, now := range nows {
				switch e := checked(t, asked{s, "u" + anna, "anna", now, bound}); e {
				case api.OK:
					fine++
				case api.ErrStale:
					stale++
				default:
					t.Errorf("%d at %d by %d: %v", time, now, bound, e)
				}
			}
		}
	}
	if fine < 1500 || stale < 1500 {
		t.Error(fine, stale)
	}
}

// K3: all small times and bounds.
func TestSmallTimes(t *testing.T) {
	for time := range uint64(12) {
		s, _ := given{anna, "anna", time, nil}.ought()
		for now := range uint64(24) {
			for bound := range uint64(14) {
				want := api.ErrStale
				for late := range bound + 1 {
					if time+late == now {
						want = api.OK
					}
				}
				checks(t, asked{s, "u" + anna, "anna", now, bound}, want)
			}
		}
	}
}

// K3: all stamps that are handed in, right or not, by each public term, and by what is none.
func TestCheckAsItOughtToBe(t *testing.T) {
	told := map[api.Errno]int{}
	for _, s := range append(rightStamps(), changed()...) {
		for _, public := range []string{"u" + anna, "u" + ben, anna, ""} {
			for _, owner := range []string{s.Owner, "anna", "ben", ""} {
				for _, now := range []uint64{s.Time, 9, 8} {
					told[checked(t, asked{s, public, owner, now, 1})]++
				}
			}
		}
	}
	for _, e := range []api.Errno{api.OK, api.ErrArg, api.ErrSig, api.ErrName, api.ErrStale} {
		if told[e] < 400 {
			t.Error(told)
		}
	}
}

// K3: each term as the public one: only that of who signed is it.
func TestCheckWithEachTerm(t *testing.T) {
	for _, x := range terms() {
		other := api.ErrArg
		if isTerm(x, "u") {
			other = api.ErrSig
		}
		a, want := fair(files(2)), other
		if a.public == x {
			want = api.OK
		}
		a.public = x
		checks(t, a, want)
		s, e := given{x, "anna", 7, files(2)}.build()
		if e == api.OK {
			checks(t, asked{s, "u" + x, "anna", 7, 0}, api.OK)
			checks(t, asked{s, x, "anna", 7, 0}, other) // the secret itself is not its public term
		}
	}
}

// K3: of several errors the one that is named first is told.
func TestWhichErrorIsTold(t *testing.T) {
	spoil := []struct {
		change func(a *asked)
		e      api.Errno
	}{
		{func(a *asked) { a.s.Many = 9 }, api.ErrArg},
		{func(a *asked) { a.public = a.public[1:] }, api.ErrArg},
		{func(a *asked) { a.s.Sig = "g" + ben + a.s.Sig[4:] }, api.ErrSig},
		{func(a *asked) { a.owner = "ben" }, api.ErrName},
		{func(a *asked) { a.now = 6 }, api.ErrStale},
	}
	for ways := range 1 << len(spoil) {
		a, want := fair(files(3)), api.OK
		for i := len(spoil) - 1; i >= 0; i-- {
			if ways&(1<<i) != 0 {
				spoil[i].change(&a)
				want = spoil[i].e
			}
		}
		checks(t, a, want)
	}
}

// K3: of a root so deep, or so long, that nothing could be signed of it, it is ErrSig, whatever signs.
func TestCheckOfTooGreatRoots(t *testing.T) {
	for _, root := range []string{deep, deep[1:], deep[2:], deep[3:], deep[4:], words(3996), words(3980), words(3970)} {
		for _, sig := range []string{"ga\x00t\x00", "g" + anna + "t\x00", "g" + deep[1:] + "t\x00", "g" + anna + words(3990), signedStamp(anna, fresh.Stamp{Owner: "anna", Time: 7, Many: 1, Root: root}).Sig} {
			a := asked{fresh.Stamp{"anna", 7, 1, root, sig}, "u" + anna, "anna", 7, 0}
			want := api.ErrSig
			switch {
			case !isTerm(sig, "g"):
				want = api.ErrArg
			case sig == "g"+anna+signedOf(a.s):
				want = api.OK
			}
			checks(t, a, want)
		}
	}
}
