package reader_test

import (
	"math"
	"slices"
	"testing"

	"letterlock/api"
	"letterlock/meta"
	"letterlock/owner"
)

// checked holds Check against the words, and answers what it tells.
func checked(t *testing.T, a asked) (meta.Meta, api.Errno) {
	t.Helper()
	want, wantError := a.ought()
	m, e := a.check()
	if !same(m, want) || e != wantError {
		t.Fatalf("Check(%s): %s, %v, not %s, %v", show(a), show(m), e, show(want), wantError)
	}
	return m, e
}

// checks holds Check against the words, and its error against what is written out.
func checks(t *testing.T, a asked, want api.Errno) {
	t.Helper()
	if _, e := checked(t, a); e != want {
		t.Errorf("Check(%s): %v, not %v", show(a), e, want)
	}
}

// P1: what is told of an answer, written out: bytes of a file that is the second one of two.
func TestCheck(t *testing.T) {
	const (
		leaf     = "pt\x01\x05notesa\x01\x03"
		root     = "hp" + "ha\x00" + "h" + leaf
		stampSig = "ga\x01\x05pt\x01\x04annapa\x01\x07pa\x01\x02" + root
	)
	body := row(row("anna", "notes", "\x00", row("ben"), row()), "\x01\x03", row("ua\x01\x09"), row(row("ben", "bua\x01\x06pt\x00t\x00")))
	said := row(body, "ga\x01\x05"+text(body))
	stamp := row("anna", "\x01\x07", "\x01\x02", root, stampSig)
	blob := row(said, stamp, "\x01\x01", row("ha\x00"))
	want := meta.Meta{
		Rights: api.Rights{Owner: "anna", File: "notes", Readers: []string{"ben"}}, Version: 3, Verify: []string{"ua\x01\x09"},
		Blocks: []meta.Block{{User: "ben", Box: "bua\x01\x06pt\x00t\x00"}}, Sig: "ga\x01\x05" + text(body),
	}
	otherBody := row(row("anna", "notes", "\x00", row("ben"), row()), "\x01\x02", row("ua\x01\x09"), row(row("ben", "bua\x01\x06pt\x00t\x00")))
	for i, c := range []struct {
		a asked
		e api.Errno
	}{
		{asked{blob, "ua\x01\x05", "anna", "notes", 7, 0}, api.OK},
		{asked{blob, "ua\x01\x05", "anna", "notes", 12, 5}, api.OK},
		{asked{blob, "ua\x01\x05", "anna", "notes", math.MaxUint64, math.MaxUint64}, api.OK},
		{asked{blob, "ua\x01\x05", "anna", "notes", 13, 5}, api.ErrStale},
		{asked{blob, "ua\x01\x05", "anna", "notes", 8, 0}, api.ErrStale},
		{asked{blob, "ua\x01\x05", "anna", "notes", 6, math.MaxUint64}, api.ErrStale},
		{asked{blob, "ua\x01\x05", "anna", "note", 7, 0}, api.ErrName},
		{asked{blob, "ua\x01\x05", "anna", "", 7, 0}, api.ErrName},
		{asked{blob, "ua\x01\x05", "ben", "notes", 7, 0}, api.ErrName},
		{asked{blob, "ua\x01\x05", "", "notes", 7, 0}, api.ErrName},
		{asked{blob, "ua\x01\x05", "notes", "anna", 7, 0}, api.ErrName},
		{asked{blob, "ua\x01\x06", "anna", "notes", 7, 0}, api.ErrSig},
		{asked{blob, "uua\x01\x05", "anna", "notes", 7, 0}, api.ErrSig},
		{asked{blob, "a\x01\x05", "anna", "notes", 7, 0}, api.ErrArg},
		{asked{blob, "", "anna", "notes", 7, 0}, api.ErrArg},
		{asked{blob[1:], "ua\x01\x05", "anna", "notes", 7, 0}, api.ErrForm},
		{asked{blob + "\x00", "ua\x01\x05", "anna", "notes", 7, 0}, api.ErrForm},
		{asked{blob[:len(blob)-1], "ua\x01\x05", "anna", "notes", 7, 0}, api.ErrForm},
		{asked{said, "ua\x01\x05", "anna", "notes", 7, 0}, api.ErrForm},
		{asked{"", "", "", "", 0, 0}, api.ErrForm},
		{asked{row(said, stamp, "\x00", row("ha\x00")), "ua\x01\x05", "anna", "notes", 7, 0}, api.ErrStale},               // its place
		{asked{row(said, stamp, "\x01\x02", row("ha\x00")), "ua\x01\x05", "anna", "notes", 7, 0}, api.ErrStale},           // none
		{asked{row(said, stamp, "\x01\x08", row("ha\x00")), "ua\x01\x05", "anna", "notes", 7, 0}, api.ErrForm},            // none of an envelope's
		{asked{row(said, stamp, "\x01\x01", row("ha\x01\x01")), "ua\x01\x05", "anna", "notes", 7, 0}, api.ErrStale},       // its proof
		{asked{row(said, stamp, "\x01\x01", row("ha\x00", "ha\x00")), "ua\x01\x05", "anna", "notes", 7, 0}, api.ErrStale}, // too long
		{asked{row(said, stamp, "\x01\x01", row()), "ua\x01\x05", "anna", "notes", 7, 0}, api.ErrStale},                   // too short
		{asked{row(row(body, "ga\x01\x06"+text(body)), stamp, "\x01\x01", row("ha\x00")), "ua\x01\x05", "anna", "notes", 7, 0}, api.ErrSig},
		{asked{row(row(otherBody, "ga\x01\x05"+text(otherBody)), stamp, "\x01\x01", row("ha\x00")), "ua\x01\x05", "anna", "notes", 7, 0}, api.ErrStale}, // an old version
		{asked{row(row(otherBody, "ga\x01\x05"+text(body)), stamp, "\x01\x01", row("ha\x00")), "ua\x01\x05", "anna", "notes", 7, 0}, api.ErrSig},
		{asked{row(said, row("anna", "\x01\x08", "\x01\x02", root, stampSig), "\x01\x01", row("ha\x00")), "ua\x01\x05", "anna", "notes", 8, 0}, api.ErrSig}, // another time
		{asked{row(said, row("ben", "\x01\x07", "\x01\x02", root, stampSig), "\x01\x01", row("ha\x00")), "ua\x01\x05", "ben", "notes", 7, 0}, api.ErrSig},
		{asked{row(said, row("Anna", "\x01\x07", "\x01\x02", root, stampSig), "\x01\x01", row("ha\x00")), "ua\x01\x05", "Anna", "notes", 7, 0}, api.ErrForm},
	} {
		m, e := checked(t, c.a)
		if e != c.e || e == api.OK && !same(m, want) || e != api.OK && !same(m, meta.Meta{}) {
			t.Errorf("%d: %s, %v, not %v", i, show(m), e, c.e)
		}
	}
}

// P1: each file of each many, of each owner, is trusted as itself and as no other one.
func TestCheckOfEachFile(t *testing.T) {
	for many := range 9 {
		for _, n := range []string{"anna", "b-1", longest} {
			u := owns(t, n, many)
			files := u.Files()
			for at, blob := range blobs(t, u, 9) {
				for i, file := range append(slices.Clone(files), "none", "", "Notes") {
					a := fair(t, blob)
					a.file = file
					want := api.ErrName
					if i == at {
						want = api.OK
					}
					checks(t, a, want)
				}
			}
		}
	}
}

// P1: each public term, right or not, and each name of an owner.
func TestCheckOfEachOwner(t *testing.T) {
	blob := blobs(t, owns(t, "anna", 3), 9)[1]
	for _, x := range terms() {
		a := fair(t, blob)
		a.public = x
		want := api.ErrArg
		if isTerm(x, "u") {
			want = api.ErrSig
		}
		checks(t, a, want)
	}
	for _, n := range slices.Concat(names(), noNames()) {
		a := fair(t, blob)
		a.owner = n
		want := api.ErrName
		if n == "anna" {
			want = api.OK
		}
		checks(t, a, want)
		a = fair(t, blob)
		a.public = publicOf("ben")
		if n != "ben" {
			checks(t, a, api.ErrSig)
		}
	}
}

// P1: each time, by each bound: sums of these go round, and must not.
func TestCheckOfEachTime(t *testing.T) {
	u := owns(t, "anna", 2)
	fine, stale := 0, 0
	for _, time := range times {
		a := fair(t, blobs(t, u, time)[0])
		for _, a.bound = range times {
			for _, a.now = range append([]uint64{time - 1, time, time + 1, time + a.bound - 1, time + a.bound, time + a.bound + 1, time - a.bound}, times...) {
				switch _, e := checked(t, a); e {
				case api.OK:
					fine++
				case api.ErrStale:
					stale++
				default:
					t.Errorf("%s: %v", show(a), e)
				}
			}
		}
	}
	if fine < 500 || stale < 500 {
		t.Error(fine, stale)
	}
}

// P1: envelopes of which one part, or two, are others, signed anew or not, by the owner or by somebody else: all as the words ask.
func TestCheckAsItOughtToBe(t *testing.T) {
	told := map[api.Errno]int{}
	secrets := []string{"", secretOf("anna"), secretOf("ben")}
	for _, many := range []int{1, 2, 3, 8} {
		blob := blobs(t, owns(t, "anna", many), 9)[many/2]
		for i, change := range changes() {
			for _, stamps := range secrets {
				for _, says := range secrets {
					x := taken(t, blob)
					change(&x)
					s := putAs(x, stamps, says)
					for _, c := range []asked{{s, publicOf("anna"), "anna", eight()[i%8], 9, 1}, {s, publicOf("anna"), x.Stamp.Owner, x.Meta.Rights.File, x.Stamp.Time, 0}, {s, publicOf("ben"), x.Meta.Rights.Owner, x.Meta.Rights.File, 9, 1}, {s, publicOf("anna"), "anna", taken(t, blob).Meta.Rights.File, 9, 0}} {
						_, e := checked(t, c)
						told[e]++
					}
				}
			}
		}
	}
	for _, e := range []api.Errno{api.OK, api.ErrForm, api.ErrSig, api.ErrName, api.ErrStale} {
		if told[e] < 200 {
			t.Error(told)
		}
	}
}

// P1: of several errors the one that is named first is told: the stamp's all ahead of the meta's, and these ahead of what the stamp covers.
func TestWhichErrorOfCheck(t *testing.T) {
	spoil := []struct {
		change func(x *owner.Envelope, a *asked)
		e      api.Errno
	}{
		{func(x *owner.Envelope, a *asked) { x.At = 8 }, api.ErrForm},
		{func(x *owner.Envelope, a *asked) { a.public = "x" }, api.ErrArg},
		{func(x *owner.Envelope, a *asked) { x.Stamp.Sig = "g" + secretOf("ben") + signedOf(x.Stamp) }, api.ErrSig},
		{func(x *owner.Envelope, a *asked) { // the stamp is another one's
			x.Stamp.Owner = "cy"
			x.Stamp.Sig = "g" + secretOf("anna") + signedOf(x.Stamp)
		}, api.ErrName},
		{func(x *owner.Envelope, a *asked) { a.now, a.bound = a.now+3, 2 }, api.ErrStale},
		{func(x *owner.Envelope, a *asked) { x.Meta.Sig = "g" + secretOf("ben") + text(bodyOf(x.Meta)) }, api.ErrSig},
		{func(x *owner.Envelope, a *asked) { a.file = "none" }, api.ErrName},
		{func(x *owner.Envelope, a *asked) { x.Proof = nil }, api.ErrStale},
	}
	blob := blobs(t, owns(t, "anna", 4), 9)[2]
	for ways := range 1 << len(spoil) {
		x, a, want := taken(t, blob), fair(t, blob), api.OK
		for i := len(spoil) - 1; i >= 0; i-- {
			if ways&(1<<i) != 0 {
				spoil[i].change(&x, &a)
				want = spoil[i].e
			}
		}
		a.blob = putAs(x, "", "")
		checks(t, a, want)
	}
}

// P1: a meta beside the stamp of another time, and of another file, in the place and with the proof of each: only what belongs to one another is trusted.
func TestOldMetasBesideNewStamps(t *testing.T) {
	for many := 1; many <= 8; many++ {
		u := owns(t, "anna", many)
		was := blobs(t, u, 7)
		for _, file := range u.Files() {
			must(t, u.Grant(file, "0", true)) // a version more
		}
		is := blobs(t, u, 8)
		all := append(slices.Clone(was), is...)
		for i, ofMeta := range all {
			for j, ofStamp := range all {
				x, y := taken(t, ofMeta), taken(t, ofStamp)
				x.Stamp, x.At, x.Proof = y.Stamp, y.At, y.Proof
				s := putAs(x, "", "")
				want := api.ErrStale
				if i == j {
					want = api.OK
				}
				checks(t, asked{s, publicOf("anna"), "anna", x.Meta.Rights.File, 8, 1}, want)
			}
		}
	}
}
