package proxy

// CountTo makes a client one that has had so many requests and questions: nobody asks as often as a number's end is far.
func (p *Proxy) CountTo(last, asked int) {
	p.request.number, p.question.number = last, asked
}
