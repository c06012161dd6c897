package fault

// several is what an error of several errors has, as errors.Join makes one.
type several interface {
	Unwrap() []error
}

// outermost tells the Fault that err is, or that comes first in what err joins; nil, if that is none.
func outermost(err error) *Fault {
	defer func() { recover() }() // errors of others may panic while they are asked
	for err != nil {
		if f, ok := err.(*Fault); ok {
			return f
		}
		err = first(err)
	}
	return nil
}

// first tells the first error that isn't nil in what err joins; nil, if there is none.
func first(err error) error {
	if joined, ok := err.(several); ok {
		for _, e := range joined.Unwrap() {
			if e != nil {
				return e
			}
		}
	}
	return nil
}

// words tells what err tells; "" of one that panics.
func words(err error) string {
	defer func() { recover() }() // errors of others may panic while they are asked
	return err.Error()
}
