package sound_test

import (
	"testing"

	"leadline/fault"
	"leadline/sound"
)

// TestSlantedMadeFlat: from the water and the time there and back to the way on the map.
func TestSlantedMadeFlat(t *testing.T) {
	for _, x := range []struct{ temp, salt, depth, micros, dz, speed, slanted, flat int64 }{
		{1000, 3500, 5000, 67113, 30000, 1490070, 50002, 40002},
		{1000, 3500, 5000, 67113, -30000, 1490070, 50002, 40002},
		{400, 0, 0, 500000, 3, 1421239, 355310, 355309},
		{2500, 3600, 100000, 1, 0, 1537046, 1, 1},
		{2500, 3600, 100000, 1, 1, 1537046, 1, 0},
		{4500, 4500, 1000000, 2000000, 1000000, 1596151, 1596151, 1244065},
		{-500, 0, 0, 2000000, 1376138, 1376139, 1376139, 1658},
	} {
		speed, err := sound.Speed(x.temp, x.salt, x.depth)
		isRight(t, "P13.3: Speed", []int64{x.temp, x.salt, x.depth}, speed, err, x.speed)
		slanted, err := sound.Range(x.micros, speed)
		isRight(t, "P13.3: Range", []int64{x.micros, speed}, slanted, err, x.slanted)
		flat, err := sound.Flat(slanted, x.dz)
		isRight(t, "P13.3: Flat", []int64{slanted, x.dz}, flat, err, x.flat)
	}
}

// TestWayIsFlat: whatever the water, a time that may be makes a range that may be, and a flat way that, with the depth, isn't longer than it, and with one more is.
func TestWayIsFlat(t *testing.T) {
	d := thrown(4)
	for range 30000 {
		speed, err := sound.Speed(coldSpan().some(d), saltSpan().some(d), deepSpan().some(d))
		if err != nil {
			t.Fatalf("P13.3: Speed: %v", err)
		}
		slanted, err := sound.Range(microsSpan().some(d), speed)
		if err != nil {
			t.Fatalf("P13.3: Range at %d: %v", speed, err)
		}
		dz := span{-slanted, slanted}.some(d)
		flat, err := sound.Flat(slanted, dz)
		if err != nil {
			t.Fatalf("P13.3: Flat(%d, %d): %v", slanted, dz, err)
		}
		if left := slanted*slanted - dz*dz; flat < 0 || flat*flat > left || (flat+1)*(flat+1) <= left {
			t.Fatalf("P13.3: Flat(%d, %d): %d", slanted, dz, flat)
		}
	}
}

// TestDeeperThanFar: a range that doesn't reach so deep makes no flat way.
func TestDeeperThanFar(t *testing.T) {
	for _, micros := range []int64{0, 1, 67113, 2000000} {
		slanted, err := sound.Range(micros, 1490070)
		if err != nil {
			t.Fatalf("P13.3: Range(%d): %v", micros, err)
		}
		flatIs(t, slanted, slanted, 0)
		flatIs(t, slanted, -slanted, 0)
		flatFails(t, slanted, slanted+1)
		flatFails(t, slanted, -slanted-1)
	}
}

// TestSameAgain: the same is told of the same, whatever was told between, and by many at a time.
func TestSameAgain(t *testing.T) {
	done := make(chan bool)
	for range 8 {
		go func() {
			defer func() { done <- true }()
			for range 200 {
				speedIs(t, 1234, 3456, 78901, 1498861)
				speedFails(t, 1234, 4501, 78901)
				rangeIs(t, 123457, 1497531, 92440)
				rangeFails(t, 123457, 0)
				flatIs(t, 5, 3, 4)
				flatFails(t, 5, 6)
			}
		}()
	}
	for range 8 {
		<-done
	}
}

// TestErrorsAreTheCallers: who changes an error that was told changes no other one.
func TestErrorsAreTheCallers(t *testing.T) {
	_, first := sound.Speed(-501, 0, 0)
	_, second := sound.Speed(-501, 0, 0)
	_, third := sound.Range(-1, 1)
	_, fourth := sound.Flat(0, 1)
	f, ok := first.(*fault.Fault)
	if !ok {
		t.Fatalf("P13.1: %v is no fault", first)
	}
	f.Op, f.Err = "changed", nil
	isWrong(t, "P13.1: Speed", []int64{-501, 0, 0}, 0, second)
	isWrong(t, "P13.2: Range", []int64{-1, 1}, 0, third)
	isWrong(t, "P13.2: Flat", []int64{0, 1}, 0, fourth)
	speedFails(t, -501, 0, 0)
	rangeFails(t, -1, 1)
	flatFails(t, 0, 1)
}
