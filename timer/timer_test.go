package timer

import (
	"math"
	"math/rand/v2"
	"testing"

	"vmfleet/api"
)

// times are deadlines and clock values: small ones, each bit alone and its neighbours, and the greatest.
func times() []uint32 {
	list := []uint32{0, 5, 6, 7, 1000, 0xFFFF, math.MaxInt32 - 1, math.MaxUint32 - 1, math.MaxUint32}
	for bit := range 32 {
		list = append(list, 1<<bit-1, 1<<bit, 1<<bit+1)
	}
	return list
}

// timers are timers with each of the deadlines in all four states, also those that no machine has.
func timers() []api.Timer {
	var list []api.Timer
	for _, deadline := range times() {
		for _, armed := range []bool{false, true} {
			for _, fired := range []bool{false, true} {
				list = append(list, api.Timer{Armed: armed, Deadline: deadline, Fired: fired})
			}
		}
	}
	return list
}

// TestExample checks P8.2 with the chapter's example, from timers in every state.
func TestExample(t *testing.T) {
	for _, x := range timers() {
		if a := Arm(x, 5); Due(a, 4) || !Due(a, 5) {
			t.Errorf("%+v: %v at 4, %v at 5", a, Due(a, 4), Due(a, 5))
		}
	}
}

// TestArm checks P8.1, Arm: the result depends on the deadline alone, and 0 disarms.
func TestArm(t *testing.T) {
	for _, x := range timers() {
		for _, deadline := range times() {
			want := api.Timer{Armed: true, Deadline: deadline, Fired: false}
			if deadline == 0 {
				want = api.Timer{}
			}
			if got := Arm(x, deadline); got != want {
				t.Errorf("%+v for %d: %+v", x, deadline, got)
			}
		}
	}
}

// TestFire checks P8.1, Fire: an armed timer keeps only its deadline, also one of 0 or one that has fired already.
func TestFire(t *testing.T) {
	for _, x := range timers() {
		want := x
		if x.Armed {
			want = api.Timer{Armed: false, Deadline: x.Deadline, Fired: true}
		}
		if got, ok := Fire(x); got != want || ok != x.Armed {
			t.Errorf("%+v: %+v, %v", x, got, ok)
		}
	}
}

// TestDue checks P8.2, Due: an armed timer is due from its deadline on, compared as unsigned numbers; no other is.
func TestDue(t *testing.T) {
	for _, x := range timers() {
		for _, now := range append(times(), x.Deadline-1, x.Deadline, x.Deadline+1) {
			want := x.Armed && int64(now)-int64(x.Deadline) >= 0
			if got := Due(x, now); got != want {
				t.Errorf("%+v at %d: %v", x, now, got)
			}
		}
	}
}

// TestDueLimits checks P8.2, Due, with literal values where signed or wrapped comparisons differ.
func TestDueLimits(t *testing.T) {
	for _, c := range []struct {
		deadline, now uint32
		want          bool
	}{
		{0, 0, true}, {0, 0xFFFFFFFF, true}, {1, 0, false}, {1, 1, true},
		{1, 0x80000000, true}, {1, 0x80000001, true}, {1, 0x80000002, true}, {1, 0xFFFFFFFF, true},
		{0x7FFFFFFF, 0x80000000, true}, {0x80000000, 0x7FFFFFFF, false}, {0x80000000, 0, false},
		{0xFFFFFFFF, 0, false}, {0xFFFFFFFF, 0xFFFFFFFE, false}, {0xFFFFFFFF, 0xFFFFFFFF, true},
	} {
		if got := Due(api.Timer{Armed: true, Deadline: c.deadline}, c.now); got != c.want {
			t.Errorf("armed for %#x, at %#x: %v", c.deadline, c.now, got)
		}
		if Due(api.Timer{Deadline: c.deadline, Fired: true}, c.now) || Due(api.Timer{Deadline: c.deadline}, c.now) {
			t.Errorf("not armed, with the deadline %#x: due at %#x", c.deadline, c.now)
		}
	}
}

// TestIn checks P8.2, In and Pending: only Fired counts.
func TestIn(t *testing.T) {
	for _, x := range timers() {
		want := uint32(0)
		if x.Fired {
			want = 1
		}
		if v, pending := In(x), Pending(x); v != want || pending != x.Fired {
			t.Errorf("%+v: %d, %v", x, v, pending)
		}
	}
}

// TestMay checks P8.2, May: its three conditions one by one.
func TestMay(t *testing.T) {
	for _, x := range timers() {
		want := true
		if x.Armed && x.Fired {
			want = false
		}
		if x.Armed && x.Deadline == 0 {
			want = false
		}
		if !x.Armed && !x.Fired && x.Deadline != 0 {
			want = false
		}
		if got := May(x); got != want {
			t.Errorf("%+v: %v", x, got)
		}
	}
}

// TestMayStates checks P8.2, May, with literal values: all states with and without a deadline.
func TestMayStates(t *testing.T) {
	for x, want := range map[api.Timer]bool{
		{}:                                      true,
		{Deadline: 9}:                           false,
		{Armed: true}:                           false,
		{Armed: true, Deadline: 9}:              true,
		{Fired: true}:                           true,
		{Deadline: 9, Fired: true}:              true,
		{Armed: true, Fired: true}:              false,
		{Armed: true, Deadline: 9, Fired: true}: false,
	} {
		if got := May(x); got != want {
			t.Errorf("%+v: %v", x, got)
		}
	}
}

// TestOnce checks P8.3: a timer in any state fires again only after it was armed again.
func TestOnce(t *testing.T) {
	for _, x := range timers() {
		fired, _ := Fire(x)
		for range 3 {
			if again, ok := Fire(fired); again != fired || ok {
				t.Fatalf("%+v fired again: %+v, %v", fired, again, ok)
			}
			for _, now := range times() {
				if Due(fired, now) {
					t.Fatalf("%+v is due at %d", fired, now)
				}
			}
		}
		if again, ok := Fire(Arm(fired, 3)); again != (api.Timer{Deadline: 3, Fired: true}) || !ok {
			t.Errorf("%+v armed again: %+v, %v", fired, again, ok)
		}
		if off, ok := Fire(Arm(fired, 0)); off != (api.Timer{}) || ok {
			t.Errorf("%+v disarmed: %+v, %v", fired, off, ok)
		}
	}
}

// diary is what happened to a timer since it was armed last.
type diary struct {
	deadline uint32
	armings  int
	firings  int
	spent    bool
}

// check compares a timer with its diary.
func (d diary) check(t *testing.T, x api.Timer, now uint32) {
	t.Helper()
	waits := d.deadline != 0 && !d.spent
	if Due(x, now) != (waits && now >= d.deadline) || Pending(x) != d.spent || (In(x) == 1) != d.spent || !May(x) {
		t.Fatalf("%+v at %d, with %+v: Due %v, Pending %v, In %d, May %v", x, now, d, Due(x, now), Pending(x), In(x), May(x))
	}
	if d.firings > d.armings {
		t.Fatalf("fired %d times, armed %d times", d.firings, d.armings)
	}
}

// happen arms the timer for the deadline or tries to fire it, and writes the diary.
func happen(t *testing.T, x api.Timer, d diary, arm bool, deadline uint32) (api.Timer, diary) {
	t.Helper()
	if arm {
		d.deadline, d.spent = deadline, false
		if deadline != 0 {
			d.armings++
		}
		return Arm(x, deadline), d
	}
	want := d.deadline != 0 && !d.spent
	x, ok := Fire(x)
	if ok != want {
		t.Fatalf("fired: %v, with %+v", ok, d)
	}
	if ok {
		d.firings, d.spent = d.firings+1, true
	}
	return x, d
}

// TestLife checks P8.1 to P8.3: long lives of a timer, armed and fired at random, against a diary.
func TestLife(t *testing.T) {
	r := rand.New(rand.NewPCG(8, 3))
	all := times()
	for _, percent := range []int{10, 50, 90} {
		var x api.Timer
		var d diary
		for range 20000 {
			x, d = happen(t, x, d, r.IntN(100) < percent, all[r.IntN(len(all))])
			d.check(t, x, all[r.IntN(len(all))])
		}
	}
}

// TestEveryLife checks P8.3: all orders of 7 times arming, disarming and firing.
func TestEveryLife(t *testing.T) {
	for order := range 3 * 3 * 3 * 3 * 3 * 3 * 3 {
		var x api.Timer
		var d diary
		rest := order
		for range 7 {
			x, d = happen(t, x, d, rest%3 != 0, uint32(rest%3-1)*4)
			rest /= 3
			for now := range uint32(7) {
				d.check(t, x, now)
			}
		}
	}
}
