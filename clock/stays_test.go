package clock_test

import (
	"testing"

	"leadline/api"
	"leadline/clock"
	"leadline/fault"
)

// TestClocksApart: clocks know nothing of one another.
func TestClocksApart(t *testing.T) {
	first := clock.New()
	takesIs(t, first, 1000, 0, api.OK)
	second := clock.New()
	lastIs(t, second, 0, false)
	takesIs(t, second, 10, 0, api.OK)
	lastIs(t, first, 1000, true)
	takesIs(t, first, 1003, 3, api.OK)
	takesIs(t, second, 1003, 993, api.OK)
	takesIs(t, first, 1002, 0, api.ErrStale)
	if first == second {
		t.Errorf("P14.1: New is no new memory")
	}
}

// TestErrorsAreTheCallers: errors stay as they were told, and who changes one changes no other and no clock.
func TestErrorsAreTheCallers(t *testing.T) {
	c := clock.New()
	takesIs(t, c, 5, 0, api.OK)
	_, one := c.Take(4)
	_, two := c.Take(4)
	takesIs(t, c, 6, 1, api.OK)
	f, ok := one.(*fault.Fault)
	if !ok {
		t.Fatalf("P14.1: %v is no fault", one)
	}
	f.Op, f.Err = "changed", nil
	isStale(t, 5, 4, 0, two)
	takesIs(t, c, 5, 0, api.ErrStale)
	lastIs(t, c, 6, true)
}

// TestSameAgain: clocks that are told the same tell the same, by many at a time.
func TestSameAgain(t *testing.T) {
	done := make(chan bool)
	for range 8 {
		go func() {
			defer func() { done <- true }()
			d, k := thrown(5), fresh()
			for range 2000 {
				k.take(t, d.Uint32())
			}
		}()
	}
	for range 8 {
		<-done
	}
}
