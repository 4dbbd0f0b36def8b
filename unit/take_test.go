package unit

import (
	"slices"
	"testing"

	"podesta/api"
	"podesta/cube"
)

// P13.1: a change of each kind opens a transaction, and further ones of each kind are its next ones.
func TestChanges(t *testing.T) {
	one, two, three := add(vlan(1), 1), add(vlan(2), 2), add(vlan(3), 3)
	before := added(one, two)
	for _, c := range []struct {
		first api.Mod
		after []api.Rule
	}{
		{three, added(one, two, three)},
		{add(vlan(1), 1), before},
		{lasting(one, 5, 6), added(lasting(one, 5, 6), two)},
		{of(api.Modify, cube.All(), 0, out(9)...), table(doing(ruleFrom(one), out(9)...), doing(ruleFrom(two), out(9)...))},
		{of(api.Modify, vlan(9), 0), before},
		{of(api.Delete, vlan(2), 0), added(one)},
		{by(2, of(api.Delete, vlan(2), 0)), before},
		{of(api.ModifyIt, vlan(2), 2), table(ruleFrom(one), doing(ruleFrom(two)))},
		{of(api.ModifyIt, vlan(2), 1, out(9)...), before},
		{of(api.DeleteIt, vlan(1), 1), added(two)},
		{of(api.DeleteIt, cube.All(), 1), before},
	} {
		u := holding(t, 4, one, two)
		takes(t, u, change(6, c.first))
		shows(t, u, before, c.after, 6)
		takes(t, u, change(6, of(api.Delete, cube.All(), 0)))
		shows(t, u, before, nil, 6)
		takes(t, u, change(6, two), change(6, of(api.ModifyIt, vlan(2), 2, out(8)...)))
		shows(t, u, before, table(doing(ruleFrom(two), out(8)...)), 6)
		takes(t, u, change(6, three), change(6, of(api.DeleteIt, vlan(2), 2)), change(6, of(api.Modify, cube.All(), 0)))
		shows(t, u, before, table(doing(ruleFrom(three))), 6)
		takes(t, u, just(api.MsgCommit, 6))
		shows(t, u, table(doing(ruleFrom(three))), table(doing(ruleFrom(three))))
	}
}

// P13.1: errors of Apply on the view, for the first change of a transaction and for a later one.
func TestErrors(t *testing.T) {
	for _, first := range [][]api.Mod{nil, {add(vlan(3), 3)}} {
		for _, c := range []struct {
			m api.Mod
			e api.Errno
		}{
			{by(2, add(vlan(1), 1)), api.ErrOwner},
			{by(2, checked(add(vlan(1), 1))), api.ErrOwner},
			{checked(add(cube.All(), 1)), api.ErrOverlap},
			{checked(by(2, add(fixed(api.Src, 1, 32), 1))), api.ErrOverlap},
		} {
			u := holding(t, 4, add(vlan(1), 1))
			for _, m := range first {
				takes(t, u, change(6, m))
			}
			refuses(t, u, change(6, c.m), c.e)
			shows(t, u, added(add(vlan(1), 1)), added(append([]api.Mod{add(vlan(1), 1)}, first...)...), 6)
		}
	}
}

// P13.1: changes that are wrong only by the changes of another open transaction, or of the same one.
func TestWrongByOthers(t *testing.T) {
	for _, id := range []int{5, 6, 7} {
		for _, c := range []struct {
			m api.Mod
			e api.Errno
		}{
			{by(2, add(vlan(1), 1)), api.ErrOwner},
			{checked(add(cube.All(), 1)), api.ErrOverlap},
		} {
			u := New(4)
			takes(t, u, change(6, add(vlan(1), 1)))
			refuses(t, u, change(id, c.m), c.e)
			open := []int{6}
			if id != 6 {
				open = []int{min(id, 6), max(id, 6)}
			}
			shows(t, u, nil, added(add(vlan(1), 1)), open...)
			// Without the other one it is right.
			takes(t, u, just(api.MsgUndo, 6), just(api.MsgUndo, id), change(id, c.m))
			shows(t, u, nil, added(checkless(c.m)), id)
		}
	}
}

// checkless is m without Check, which rules do not have.
func checkless(m api.Mod) api.Mod {
	m.Check = false
	return m
}

// P13.1: changes that are right only by the changes of another open transaction.
// When that is undone they have an error, and no effect.
func TestRightByOthers(t *testing.T) {
	for _, m := range []api.Mod{by(2, add(vlan(1), 1)), checked(add(cube.All(), 1))} {
		u := holding(t, 4, add(vlan(1), 1))
		takes(t, u, change(6, of(api.DeleteIt, vlan(1), 1)), change(4, m))
		shows(t, u, added(add(vlan(1), 1)), added(checkless(m)), 4, 6)
		takes(t, u, just(api.MsgUndo, 6))
		shows(t, u, added(add(vlan(1), 1)), added(add(vlan(1), 1)), 4)
		takes(t, u, change(4, add(vlan(9), 9)))
		both := added(add(vlan(1), 1), add(vlan(9), 9))
		shows(t, u, added(add(vlan(1), 1)), both, 4)
		takes(t, u, just(api.MsgCommit, 4))
		shows(t, u, both, both)
	}
}

// P13.1: a change that was right when it was sent, and has an error when it is committed, has no effect; those before and after it have theirs.
func TestWrongWhenCommitted(t *testing.T) {
	u := holding(t, 8, add(vlan(1), 1))
	takes(t, u, change(6, of(api.DeleteIt, vlan(1), 1)))
	takes(t, u, change(5, add(vlan(2), 2)), change(5, by(2, add(vlan(1), 1))), change(5, add(vlan(3), 3)))
	takes(t, u, just(api.MsgCommit, 5))
	base := added(add(vlan(1), 1), add(vlan(2), 2), add(vlan(3), 3))
	shows(t, u, base, added(add(vlan(2), 2), add(vlan(3), 3)), 6)
	takes(t, u, just(api.MsgUndo, 6))
	shows(t, u, base, base)
}

// P13.1: a change that was right when it was sent may be wrong in the view, by what was sent later for a transaction that was opened earlier.
func TestViewInOrderOfOpening(t *testing.T) {
	u := New(8)
	takes(t, u, change(9, add(vlan(8), 8)), change(2, add(vlan(1), 1)))
	takes(t, u, change(9, of(api.Delete, cube.All(), 0)), change(9, add(vlan(7), 7)))
	shows(t, u, nil, added(add(vlan(7), 7), add(vlan(1), 1)), 2, 9)
	// As 9 was opened first, its changes do not meet those of 2; and what 9 sends is judged by what the view is then.
	takes(t, u, change(9, of(api.ModifyIt, vlan(1), 1, out(5)...)))
	shows(t, u, nil, added(add(vlan(7), 7), add(vlan(1), 1)), 2, 9)
	refuses(t, u, change(9, by(2, add(vlan(1), 1))), api.ErrOwner)
	takes(t, u, change(2, of(api.ModifyIt, vlan(7), 7, out(6)...)))
	view := table(doing(ruleFrom(add(vlan(7), 7)), out(6)...), ruleFrom(add(vlan(1), 1)))
	shows(t, u, nil, view, 2, 9)
	takes(t, u, just(api.MsgCommit, 2))
	shows(t, u, added(add(vlan(1), 1)), added(add(vlan(7), 7)), 9)
	takes(t, u, just(api.MsgCommit, 9))
	shows(t, u, added(add(vlan(7), 7)), added(add(vlan(7), 7)))
}

// P13.1: after a refused change all changes of the transaction are ignored, until it has ended and is opened again.
func TestRefused(t *testing.T) {
	for _, end := range []int{api.MsgCommit, api.MsgUndo} {
		for _, before := range [][]api.Mod{nil, {add(vlan(2), 2)}} {
			u := holding(t, 3, add(vlan(1), 1))
			base, view := added(add(vlan(1), 1)), added(append([]api.Mod{add(vlan(1), 1)}, before...)...)
			for _, m := range before {
				takes(t, u, change(6, m))
			}
			refuses(t, u, change(6, by(2, add(vlan(1), 1))), api.ErrOwner)
			for _, m := range []api.Mod{
				by(2, add(vlan(1), 1)), checked(add(cube.All(), 1)), add(vlan(3), 3), add(vlan(1), 1), add(vlan(4), 4), add(vlan(5), 5),
				of(api.Delete, cube.All(), 0), of(api.DeleteIt, vlan(1), 1), of(api.Modify, cube.All(), 0), of(api.ModifyIt, vlan(1), 1),
			} {
				takes(t, u, change(6, m))
				shows(t, u, base, view, 6)
			}
			// Only its message says that it is not sound, and a barrier is passed as ever.
			refuses(t, u, change(6, of(api.Delete, vlan(1), 7)), api.ErrForm)
			answers(t, "barrier", u.Take(just(api.MsgBarrier, 6)), just(api.MsgDone, 6))
			takes(t, u, just(end, 6))
			if end == api.MsgCommit {
				base = view
			}
			shows(t, u, base, base)
			takes(t, u, change(6, of(api.Delete, cube.All(), 0)), change(6, by(2, add(vlan(1), 1))))
			shows(t, u, base, added(by(2, add(vlan(1), 1))), 6)
			refuses(t, u, change(6, add(vlan(1), 1)), api.ErrOwner)
		}
	}
}

// failed is a unit like the one that holding makes, whose next change is refused.
func failed(t *testing.T, room int, changes ...api.Mod) *Unit {
	t.Helper()
	u := holding(t, room, changes...)
	u.Fail()
	return u
}

// P13.1: after Fail the next change is refused, which opens its transaction; all others are not.
func TestFail(t *testing.T) {
	one, two := add(vlan(1), 1), add(vlan(2), 2)
	for _, times := range []int{1, 2, 5} {
		for _, m := range []api.Mod{two, of(api.Modify, cube.All(), 0), of(api.Delete, cube.All(), 0), of(api.ModifyIt, vlan(1), 1), of(api.DeleteIt, vlan(1), 1)} {
			u := holding(t, 4, one)
			for range times {
				u.Fail()
				shows(t, u, added(one), added(one))
			}
			refuses(t, u, change(6, m), api.ErrAbort)
			shows(t, u, added(one), added(one), 6)
			takes(t, u, change(6, m), change(5, two))
			shows(t, u, added(one), added(one, two), 5, 6)
			takes(t, u, just(api.MsgCommit, 6), change(6, of(api.DeleteIt, vlan(1), 1)))
			shows(t, u, added(one), added(two), 5, 6)
		}
	}
}

// P13.1: Fail counts for each change that is refused after it.
func TestFailAgain(t *testing.T) {
	u := New(4)
	for id := range 5 {
		u.Fail()
		refuses(t, u, change(id, add(vlan(1), 1)), api.ErrAbort)
		takes(t, u, change(id, add(vlan(1), 1)))
	}
	shows(t, u, nil, nil, 0, 1, 2, 3, 4)
	takes(t, u, change(5, add(vlan(1), 1)))
	shows(t, u, nil, added(add(vlan(1), 1)), 0, 1, 2, 3, 4, 5)
}

// P13.1: what stands between Fail and the change does not count: no other message, no packet, no time, no wrong message.
func TestFailWaits(t *testing.T) {
	u := failed(t, 4, add(vlan(1), 1))
	takes(t, u, just(api.MsgCommit, 5), just(api.MsgUndo, 6))
	for _, kind := range []int{api.MsgBarrier, api.MsgAsk} {
		u.Take(just(kind, 6))
	}
	u.Packet(1, on(1))
	u.Packet(1, on(2))
	u.Tick(3)
	refuses(t, u, just(api.MsgDone, 6), api.ErrForm)
	refuses(t, u, change(6, api.Mod{}), api.ErrForm)
	refuses(t, u, change(6, add(vlan(2), 2)), api.ErrAbort)
	takes(t, u, change(7, add(vlan(2), 2)))
}

// P13.1: a change of a transaction of which one was refused already is ignored: Fail waits for the next one of another.
func TestFailAndRefused(t *testing.T) {
	u := New(4)
	takes(t, u, change(7, add(vlan(1), 1)))
	refuses(t, u, change(6, by(2, add(vlan(1), 1))), api.ErrOwner)
	u.Fail()
	takes(t, u, change(6, add(vlan(2), 2)), change(6, by(2, add(vlan(1), 1))))
	refuses(t, u, change(7, add(vlan(2), 2)), api.ErrAbort)
	takes(t, u, change(7, add(vlan(2), 2)), change(8, add(vlan(3), 3)))
	shows(t, u, nil, added(add(vlan(1), 1), add(vlan(3), 3)), 6, 7, 8)
}

// P13.1: Fail between the changes of two transactions: the earlier changes of the one that is refused stay, until it ends.
func TestFailBetween(t *testing.T) {
	u := New(8)
	takes(t, u, change(6, add(vlan(1), 1)), change(7, add(vlan(2), 2)))
	u.Fail()
	refuses(t, u, change(7, add(vlan(3), 3)), api.ErrAbort)
	takes(t, u, change(6, add(vlan(4), 4)), change(7, add(vlan(5), 5)))
	shows(t, u, nil, added(add(vlan(1), 1), add(vlan(2), 2), add(vlan(4), 4)), 6, 7)
	takes(t, u, just(api.MsgUndo, 7), just(api.MsgCommit, 6))
	shows(t, u, added(add(vlan(1), 1), add(vlan(4), 4)), added(add(vlan(1), 1), add(vlan(4), 4)))
}

// P13.1: if several errors apply, it is ErrAbort, then that of Apply, then ErrFull.
func TestWhichError(t *testing.T) {
	one, full := add(vlan(1), 1), add(vlan(2), 2)
	overlap := checked(add(cube.All(), 1))
	owner := by(2, one)
	for _, m := range []api.Mod{full, overlap, owner} {
		refuses(t, failed(t, 1, one), change(6, m), api.ErrAbort)
	}
	// There is no room for the one that overlaps, either.
	u := holding(t, 1, one)
	refuses(t, u, change(6, full), api.ErrFull)
	refuses(t, u, change(7, overlap), api.ErrOverlap)
	refuses(t, u, change(8, owner), api.ErrOwner)
	// A rule of another owner that another rule overlaps.
	u = holding(t, 2, add(vlan(1), 3), add(cube.All(), 3))
	refuses(t, u, change(6, checked(by(2, add(vlan(1), 3)))), api.ErrOwner)
	shows(t, u, added(add(vlan(1), 3), add(cube.All(), 3)), added(add(vlan(1), 3), add(cube.All(), 3)), 6)
}

// P13.1: room is used by the rules of the base, and by the Adds of the same transaction and of others, up to just the room.
func TestFull(t *testing.T) {
	for room := range 5 {
		for inBase := range room + 1 {
			for inOther := range room - inBase + 1 {
				u := New(room)
				next := 0
				fill := func(id, n int) {
					for range n {
						next++
						takes(t, u, change(id, add(vlan(uint64(next)), next)))
					}
				}
				fill(1, inBase)
				takes(t, u, just(api.MsgCommit, 1))
				fill(2, inOther)
				fill(3, room-inBase-inOther)
				for id := 2; id < 5; id++ {
					refuses(t, u, change(id, add(vlan(100), id)), api.ErrFull)
				}
				if n := len(u.View()); n != room {
					t.Errorf("%d rules, not %d", n, room)
				}
			}
		}
	}
}

// P13.1: only an Add needs room.
func TestFullForAddsOnly(t *testing.T) {
	one := add(vlan(1), 1)
	u := holding(t, 1, one)
	takes(t, u, change(6, of(api.Modify, cube.All(), 0)), change(6, of(api.ModifyIt, vlan(2), 2, out(2)...)),
		change(6, of(api.DeleteIt, vlan(2), 2)), change(6, of(api.Delete, vlan(2), 0)), change(6, of(api.ModifyIt, vlan(1), 1, out(2)...)))
	shows(t, u, added(one), table(doing(ruleFrom(one), out(2)...)), 6)
	u = New(0)
	for i, kind := range []int{api.Modify, api.Delete, api.ModifyIt, api.DeleteIt} {
		takes(t, u, change(i, of(kind, vlan(1), 0)))
	}
	refuses(t, u, change(4, one), api.ErrFull)
}

// P13.1: a key counts once, wherever it stands: in the base, in the same transaction, in others; by Match and Prio, whatever else.
func TestFullCountsKeysOnce(t *testing.T) {
	one, two, three := add(vlan(1), 1), add(vlan(2), 2), add(vlan(3), 3)
	u := holding(t, 2, one)
	takes(t, u, change(6, one), change(6, lasting(one, 3, 4)), change(7, one), change(6, two), change(7, two), change(7, lasting(two, 1, 0)), change(8, two))
	shows(t, u, added(one), added(one, two), 6, 7, 8)
	refuses(t, u, change(8, three), api.ErrFull)
	refuses(t, u, change(7, add(vlan(1), 2)), api.ErrFull)
	refuses(t, u, change(6, add(vlan(2), 1)), api.ErrFull)
	refuses(t, u, change(9, add(and(vlan(1), api.Pcp, 0, 1), 1)), api.ErrFull)
	refuses(t, u, change(10, add(and(vlan(1), api.Vlan, 0, 11), 1)), api.ErrFull)
	takes(t, u, change(11, one), change(12, two))
}

// P13.1: a key whose rule was deleted in the view, or whose Add has no effect, still needs its room; it needs no more if it is added again.
func TestFullCountsDeleted(t *testing.T) {
	one, two, three := add(vlan(1), 1), add(vlan(2), 2), add(vlan(3), 3)
	u := holding(t, 2, one)
	takes(t, u, change(6, of(api.Delete, cube.All(), 0)), change(6, two), change(6, of(api.Delete, cube.All(), 0)))
	shows(t, u, added(one), nil, 6)
	refuses(t, u, change(7, three), api.ErrFull)
	// Another owner may have these keys now, for they need no room beside that.
	takes(t, u, change(8, by(2, one)), change(8, by(2, two)))
	shows(t, u, added(one), added(by(2, one), by(2, two)), 6, 7, 8)
	// Without 6 the first Add of 8 has no effect, but the keys are the same.
	takes(t, u, just(api.MsgUndo, 6))
	shows(t, u, added(one), added(one, by(2, two)), 7, 8)
	refuses(t, u, change(9, three), api.ErrFull)
	takes(t, u, just(api.MsgUndo, 8), change(10, three))
	shows(t, u, added(one), added(one, three), 7, 9, 10)
}

// P13.1: an Add that has no effect in the view counts as well.
func TestFullCountsAddsWithoutEffect(t *testing.T) {
	wide, narrow := checked(add(cube.All(), 1)), add(vlan(1), 1)
	u := holding(t, 2, narrow)
	takes(t, u, change(6, of(api.DeleteIt, vlan(1), 1)), change(7, wide), just(api.MsgUndo, 6))
	shows(t, u, added(narrow), added(narrow), 7)
	refuses(t, u, change(8, add(vlan(2), 2)), api.ErrFull)
	takes(t, u, just(api.MsgCommit, 7), change(9, add(vlan(2), 2)))
	shows(t, u, added(narrow), added(narrow, add(vlan(2), 2)), 8, 9)
}

// P13.1: a refused Add does not count, nor do the Adds that are ignored after it; those before it do.
func TestFullWithoutRefused(t *testing.T) {
	u := New(2)
	takes(t, u, change(6, add(vlan(1), 1)))
	u.Fail()
	refuses(t, u, change(6, add(vlan(2), 2)), api.ErrAbort)
	takes(t, u, change(6, add(vlan(3), 3)), change(7, add(vlan(4), 4)))
	shows(t, u, nil, added(add(vlan(1), 1), add(vlan(4), 4)), 6, 7)
	refuses(t, u, change(8, add(vlan(5), 5)), api.ErrFull)
	refuses(t, u, change(9, add(vlan(5), 5)), api.ErrFull)
	refuses(t, u, change(10, by(2, add(vlan(4), 4))), api.ErrOwner)
	takes(t, u, just(api.MsgUndo, 6), change(11, add(vlan(5), 5)))
	shows(t, u, nil, added(add(vlan(4), 4), add(vlan(5), 5)), 7, 8, 9, 10, 11)
}

// P13.1: a commit that deletes, an undo, and rules that lapse make room.
func TestRoomAgain(t *testing.T) {
	one, two := lasting(add(vlan(1), 1), 0, 5), add(vlan(2), 2)
	u := holding(t, 1, one)
	takes(t, u, change(6, of(api.DeleteIt, vlan(1), 1)))
	refuses(t, u, change(7, two), api.ErrFull)
	takes(t, u, just(api.MsgCommit, 6), change(8, two))
	u = holding(t, 1, one)
	u.Tick(4)
	refuses(t, u, change(7, two), api.ErrFull)
	u.Tick(1)
	takes(t, u, change(8, two), just(api.MsgUndo, 8), change(9, add(vlan(3), 3)))
	shows(t, u, nil, added(add(vlan(3), 3)), 7, 9)
}

// P13.1: MsgBarrier and MsgAsk have one answer with their Txn, whichever transactions are open; an ask is answered with the base alone.
func TestBarrierAndAsk(t *testing.T) {
	one, two := lasting(add(vlan(1), 1), 9, 0), add(vlan(2), 2)
	u := holding(t, 4, one, two)
	u.Packet(1, on(1))
	u.Tick(3)
	base := table(counted(ruleFrom(one), 1, 3, 3), counted(ruleFrom(two), 0, 3, 3))
	ask := func() {
		t.Helper()
		open := u.Open()
		for _, id := range []int{0, 1, 6, 7, maxTxn} {
			answers(t, "barrier", u.Take(just(api.MsgBarrier, id)), just(api.MsgDone, id))
			answers(t, "ask", u.Take(just(api.MsgAsk, id)), api.Msg{Kind: api.MsgStats, Txn: id, Rules: base})
		}
		if l := u.Open(); !slices.Equal(l, open) {
			t.Errorf("open: %v, not %v", l, open)
		}
	}
	ask()
	takes(t, u, change(6, of(api.Delete, cube.All(), 0)))
	ask()
	takes(t, u, change(1, add(vlan(3), 3)))
	ask()
	refuses(t, u, change(7, by(2, add(vlan(3), 3))), api.ErrOwner)
	ask()
	takes(t, u, just(api.MsgUndo, 6))
	ask()
	takes(t, u, just(api.MsgCommit, 1))
	base = table(base[0], base[1], ruleFrom(add(vlan(3), 3)))
	ask()
	answers(t, "ask", New(3).Take(just(api.MsgAsk, 4)), just(api.MsgStats, 4))
}

// P13.1: the end of a transaction that is not open is nothing, whether it never was or has ended.
func TestEndOfNone(t *testing.T) {
	u := holding(t, 4, add(vlan(1), 1))
	takes(t, u, change(6, add(vlan(2), 2)), change(8, add(vlan(3), 3)), just(api.MsgCommit, 6), just(api.MsgUndo, 8), change(7, of(api.DeleteIt, vlan(1), 1)))
	base := added(add(vlan(1), 1), add(vlan(2), 2))
	for _, id := range []int{0, 1, 5, 6, 8, 1000, maxTxn} {
		for _, kind := range []int{api.MsgCommit, api.MsgUndo} {
			takes(t, u, just(kind, id))
			shows(t, u, base, added(add(vlan(2), 2)), 7)
		}
	}
}

// P13.1: the end of a transaction that had a change refused: what was sent before that is committed, or undone.
func TestEndOfRefused(t *testing.T) {
	one, two := add(vlan(1), 1), add(vlan(2), 2)
	for _, kind := range []int{api.MsgCommit, api.MsgUndo} {
		u := holding(t, 2, one)
		takes(t, u, change(6, two), change(6, of(api.ModifyIt, vlan(1), 1)))
		refuses(t, u, change(6, add(vlan(3), 3)), api.ErrFull)
		takes(t, u, change(6, of(api.DeleteIt, vlan(2), 2)))
		view := table(doing(ruleFrom(one)), ruleFrom(two))
		shows(t, u, added(one), view, 6)
		takes(t, u, just(kind, 6))
		if kind == api.MsgCommit {
			shows(t, u, view, view)
		} else {
			shows(t, u, added(one), added(one))
		}
	}
}

// P13.1: a transaction that is opened again is a new one: the last in order, without what it was.
func TestOpenAgain(t *testing.T) {
	u := New(4)
	takes(t, u, change(6, add(vlan(1), 1)), change(7, add(vlan(1), 1)), just(api.MsgUndo, 6))
	takes(t, u, change(6, of(api.ModifyIt, vlan(1), 1, out(2)...)))
	after := table(doing(ruleFrom(add(vlan(1), 1)), out(2)...))
	shows(t, u, nil, after, 6, 7)
	takes(t, u, just(api.MsgCommit, 7), just(api.MsgCommit, 6))
	shows(t, u, after, after)
}

// orders is all orders of the numbers 0 to n-1.
func orders(n int) [][]int {
	if n == 0 {
		return [][]int{nil}
	}
	var l [][]int
	for _, shorter := range orders(n - 1) {
		for at := range n {
			l = append(l, slices.Insert(slices.Clone(shorter), at, n-1))
		}
	}
	return l
}

// P13.1: two and three open transactions, apart from each other, end in each order and in each way: those that are committed are in the base, the others have left nothing.
func TestEndsApart(t *testing.T) {
	parts := [][]api.Mod{
		{add(vlan(1), 1), of(api.ModifyIt, vlan(11), 1, out(3)...)},
		{of(api.Delete, vlan(12), 0), add(vlan(2), 1), of(api.DeleteIt, vlan(2), 1), add(vlan(2), 2)},
		{of(api.Modify, vlan(13), 0), of(api.ModifyIt, vlan(13), 1, out(4)...), add(vlan(3), 9)},
	}
	start := []api.Mod{add(vlan(11), 1), add(vlan(12), 1), add(vlan(13), 1)}
	for n := 2; n <= len(parts); n++ {
		for _, order := range orders(n) {
			for ways := range 1 << n {
				u := holding(t, 8, start...)
				// The changes come in turns.
				for at := range 4 {
					for i, part := range parts[:n] {
						if at < len(part) {
							takes(t, u, change(n-i, part[at]))
						}
					}
				}
				committed := slices.Clone(start)
				for _, i := range order {
					if ways>>i&1 == 1 {
						takes(t, u, just(api.MsgCommit, n-i))
						committed = append(committed, parts[i]...)
					} else {
						takes(t, u, just(api.MsgUndo, n-i))
					}
				}
				want := holding(t, 8, committed...).Base()
				shows(t, u, want, want)
			}
		}
	}
}

// P13.1: two open transactions with the same matches end in each order and in each way: a change counts if it has no error when it is committed.
func TestEndsTogether(t *testing.T) {
	one := add(vlan(1), 1)
	first, second := lasting(one, 7, 0), by(2, one)
	for _, c := range []struct {
		steps []api.Msg
		views [][]api.Rule
		base  []api.Rule
	}{
		{[]api.Msg{just(api.MsgCommit, 6), just(api.MsgCommit, 5)}, [][]api.Rule{added(second), added(second)}, added(second)},
		{[]api.Msg{just(api.MsgCommit, 5), just(api.MsgCommit, 6)}, [][]api.Rule{nil, nil}, nil},
		{[]api.Msg{just(api.MsgUndo, 6), just(api.MsgCommit, 5)}, [][]api.Rule{added(one), added(one)}, added(one)},
		{[]api.Msg{just(api.MsgCommit, 5), just(api.MsgUndo, 6)}, [][]api.Rule{nil, added(one)}, added(one)},
		{[]api.Msg{just(api.MsgCommit, 6), just(api.MsgUndo, 5)}, [][]api.Rule{added(second), nil}, nil},
		{[]api.Msg{just(api.MsgUndo, 5), just(api.MsgCommit, 6)}, [][]api.Rule{nil, nil}, nil},
		{[]api.Msg{just(api.MsgUndo, 6), just(api.MsgUndo, 5)}, [][]api.Rule{added(one), added(one)}, added(one)},
		{[]api.Msg{just(api.MsgUndo, 5), just(api.MsgUndo, 6)}, [][]api.Rule{nil, added(one)}, added(one)},
	} {
		// 6 replaces the rule and deletes it; 5 adds one of another owner, which is right only without it.
		u := holding(t, 1, one)
		takes(t, u, change(6, first), change(6, of(api.DeleteIt, vlan(1), 1)), change(5, second))
		shows(t, u, added(one), added(second), 5, 6)
		for i, m := range c.steps {
			takes(t, u, m)
			if l := u.View(); !slices.EqualFunc(l, c.views[i], sameRule) {
				t.Errorf("%v, step %d: %+v, not %+v", c.steps, i, l, c.views[i])
			}
		}
		shows(t, u, c.base, c.base)
	}
}

// P13.1: three open transactions that modify the same rule: the view is that of the one that was opened last, the base that of the one that was committed last.
func TestThreeTogether(t *testing.T) {
	rules := func(port int) []api.Rule { return table(doing(ruleFrom(add(vlan(1), 1)), out(port)...)) }
	for _, opened := range orders(3) {
		for _, order := range orders(3) {
			u := holding(t, 1, add(vlan(1), 1))
			for _, id := range opened {
				takes(t, u, change(id, of(api.Modify, vlan(1), 0, out(10+id)...)))
			}
			// Changes that are sent later do not change the order.
			for id := range 3 {
				takes(t, u, change(id, of(api.ModifyIt, vlan(1), 1, out(5+id)...)))
			}
			open := slices.Clone(opened)
			for _, id := range order {
				shows(t, u, u.Base(), rules(5+open[len(open)-1]), sorted(open)...)
				takes(t, u, just(api.MsgCommit, id))
				open = slices.DeleteFunc(open, func(x int) bool { return x == id })
				if l := u.Base(); !slices.EqualFunc(l, rules(5+id), sameRule) {
					t.Errorf("base: %+v", l)
				}
			}
			shows(t, u, rules(5+order[2]), rules(5+order[2]))
		}
	}
}

// sorted is l in ascending order.
func sorted(l []int) []int {
	l = slices.Clone(l)
	slices.Sort(l)
	return l
}
