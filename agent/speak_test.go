package agent_test

import (
	"slices"
	"testing"

	"waystation/agent"
	"waystation/api"
	"waystation/hand"
	"waystation/note"
)

// P19.3

// speak makes the call twice, and holds it against the chapter's words. The notes are written over, up to their capacity, which must not show in those of the second call.
func speak(t *testing.T, s hand.Side, mobile uint8) ([]note.Note, api.Errno) {
	t.Helper()
	want, wantErr := plainSpeak(s, mobile)
	for range 2 {
		l, e := agent.Speak(s, mobile)
		if !slices.Equal(l, want) || e != wantErr {
			t.Fatalf("Speak(%s, %d) = %s, %d, want %s, %d", showSide(s), mobile, showNotes(l), e, showNotes(want), wantErr)
		}
		l = l[:cap(l)]
		for i := range l {
			l[i] = note.Note{Kind: note.Hand, Mobile: 77, Tx: -7, Epoch: -77, Value: 777, Msg: hand.Msg{Cargo: "77"}}
		}
	}
	return want, wantErr
}

func speakFails(t *testing.T, s hand.Side, mobile uint8, want api.Errno) {
	t.Helper()
	if l, e := speak(t, s, mobile); len(l) != 0 || e != want {
		t.Fatalf("Speak(%s, %d) = %s, %d, want %d", showSide(s), mobile, showNotes(l), e, want)
	}
}

func epochs() []int {
	return []int{1, 2, 3, 255, 256, 257, 65535, 65536, 1000000, lastEpoch - 1, lastEpoch}
}

func TestOneNote(t *testing.T) {
	for _, vote := range []int{1, 2} {
		l, e := agent.Speak(ships(t, holds(1, 3, ""), ballot(300, vote)), 5)
		want := note.Note{Kind: note.Vote, Mobile: 5, Tx: 300, Epoch: 3, Value: vote}
		if len(l) != 1 || l[0] != want || e != api.OK {
			t.Errorf("%+v, %d, want %+v", l, e, want)
		}
	}
}

func TestNothingToSay(t *testing.T) {
	for mobile := range uint8(8) {
		for _, epoch := range epochs() {
			if l, e := speak(t, holds(mobile, epoch, ""), mobile); len(l) != 0 || e != api.OK {
				t.Fatalf("%s, %d", showNotes(l), e)
			}
		}
	}
}

// TestSpeakOfWhatWasShipped: all of it, for each mobile, in several epochs, in notes that are valid and that come out of their bytes as they were.
func TestSpeakOfWhatWasShipped(t *testing.T) {
	from := source(7)
	for _, list := range validLists() {
		for me := range uint8(8) {
			mobile, epoch := (me*3+2)%8, epochs()[from.next(len(epochs()))]
			s := ships(t, holds(me, epoch, ""), from.shuffled(list)...)
			l, e := speak(t, s, mobile)
			if e != api.OK || len(l) != len(list) {
				t.Fatalf("Speak(%s, %d) = %s, %d", showSide(s), mobile, showNotes(l), e)
			}
			for i, n := range l {
				if (n != note.Note{Kind: note.Vote, Mobile: mobile, Tx: list[i].Tx, Epoch: epoch, Value: list[i].Vote}) {
					t.Fatalf("note %d of %s is %+v", i, showSide(s), n)
				}
				b, e := note.Encode(n)
				back, e2 := note.Decode(b)
				if back != n || e != api.OK || e2 != api.OK {
					t.Fatalf("%+v came as %+v, %d, %d", n, back, e, e2)
				}
			}
		}
	}
}

func TestEachMobile(t *testing.T) {
	for _, list := range validLists() {
		for _, epoch := range epochs() {
			s := holds(2, epoch, plainCargo(list))
			for mobile := range 256 {
				if l, e := speak(t, s, uint8(mobile)); (e == api.OK) != (mobile <= 7) || e == api.OK && len(l) != len(list) || e != api.OK && e != api.ErrArg {
					t.Fatalf("Speak(%s, %d) = %s, %d", showSide(s), mobile, showNotes(l), e)
				}
			}
		}
	}
}

func TestSpeakWithoutAgency(t *testing.T) {
	for _, s := range agentless() {
		for mobile := range uint8(8) {
			speakFails(t, s, mobile, api.ErrNone)
		}
		speakFails(t, s, 8, api.ErrArg)
		speakFails(t, s, 255, api.ErrArg)
	}
}

func TestSpeakOfWrongCargos(t *testing.T) {
	for _, c := range wrongCargos() {
		for mobile := range uint8(8) {
			speakFails(t, holds(0, 1, c), mobile, api.ErrForm)
			speakFails(t, holds(7, lastEpoch, c), mobile, api.ErrForm)
		}
		speakFails(t, holds(0, 1, c), 8, api.ErrArg)
		speakFails(t, holds(0, 1, c), 255, api.ErrArg)
	}
}

func TestSpeakOfChangedCargos(t *testing.T) {
	for c := range changedCargos {
		speak(t, holds(1, 5, c), 4)
	}
}

func TestSpeakOfWrongSides(t *testing.T) {
	for _, s := range wrongSides() {
		for _, mobile := range []uint8{0, 1, 7, 8, 9, 128, 255} {
			speakFails(t, s, mobile, api.ErrArg)
		}
	}
}

// TestSpeakWithSeveralConditions: several are broken at once, and the one that is named first tells the error.
func TestSpeakWithSeveralConditions(t *testing.T) {
	c, form := plainCargo(of(7, 9)), "\x00\x07\x03"
	for _, x := range []struct {
		s      hand.Side
		mobile uint8
		e      api.Errno
	}{
		{holds(1, 5, c), 7, api.OK},
		{holds(1, 5, c), 8, api.ErrArg},
		{holds(1, 5, form), 7, api.ErrForm},
		{holds(1, 5, form), 8, api.ErrArg},
		{keeps(1, 5, 2, c), 7, api.ErrNone},
		{keeps(1, 5, 2, c), 8, api.ErrArg},
		{keeps(1, 5, 2, form), 7, api.ErrNone},
		{keeps(1, 5, 2, form), 8, api.ErrArg},
		{keeps(1, 5, 1, form), 7, api.ErrArg},
		{holds(8, 5, c), 7, api.ErrArg},
		{holds(8, 5, form), 7, api.ErrArg},
		{holds(8, 5, form), 8, api.ErrArg},
		{sideOf(1, held(5), form, true), 7, api.ErrArg},
		{sideOf(1, gone(5, 2), form, false), 7, api.ErrArg},
		{hand.Side{Me: 1, Cargo: form}, 7, api.ErrArg},
		{hand.Side{Me: 1}, 7, api.ErrNone},
		{hand.Side{Me: 1}, 8, api.ErrArg},
		{hand.Side{Me: 8}, 7, api.ErrArg},
	} {
		if l, e := speak(t, x.s, x.mobile); e != x.e || (e != api.OK) != (len(l) == 0) {
			t.Errorf("Speak(%s, %d) = %s, %d, want %d", showSide(x.s), x.mobile, showNotes(l), e, x.e)
		}
	}
}

func TestManySidesSpeak(t *testing.T) {
	errs := map[api.Errno]int{}
	for s := range manySides {
		for _, mobile := range []uint8{0, 5, 7, 8, 255} {
			_, e := speak(t, s, mobile)
			errs[e]++
		}
	}
	for _, e := range []api.Errno{api.OK, api.ErrArg, api.ErrNone, api.ErrForm} {
		if errs[e] < 10 {
			t.Errorf("the error %d: %d times", e, errs[e])
		}
	}
}

// TestSeveralAnswers: R6, of notes that are there at one time.
func TestSeveralAnswers(t *testing.T) {
	for _, list := range validLists() {
		s := holds(1, 5, plainCargo(list))
		var answers [][]note.Note
		for range 5 {
			l, _ := agent.Speak(s, 3)
			answers = append(answers, l)
		}
		want := notesOf(list, 3, 5)
		for i, l := range answers {
			if !slices.Equal(l, want) {
				t.Fatalf("Speak(%s, 3): answer %d was written over by way of another", showSide(s), i)
			}
			clear(l[:cap(l)])
			clear(append(l, note.Note{}))
		}
	}
}
